import PyProof.Rows.All
import Wide.All
import OpenK.AllK
import Wide.FinOn
import HandS.ForMost
import HandS.Wide
import HandS.Codes
import HandS.Conv
import HandS.Deep
import PySem.Challenge.RW_trueagain_k12_steps_made
import PyProof.ReprRoads
import HandS.Lambda
import HandS.EndTab
import HandS.Walk
import HandS.IsInst
import HandS.StrMore
import HandS.SetKeys
import HandS.Exc
import HandS.TryOnly
import HandS.WordsExc
import HandS.ExcInit
import HandS.ExcField
import HandS.ExcOwn
import HandS.Head0
import HandS.Head1
import HandS.Head2
import HandS.HeadEnd
import HandS.HeadHook1
import HandS.HeadHook2
import HandS.HeadHook3
import HandS.HeadHook4
import HandS.Defaults
import HandS.DictTup
import PyProof.DictMoreH
import HandS.Iter
import KE.GoesMore
import KE.GoesZip
import KE.KEqDict
import HandS.More
import KE.KeyNested
import HandS.Dict
import HandS.TupAny
import HandS.SetBool
import HandS.Strs
import PyProof.EqAt
import PyProof.NeKinds
import HandS.DictComp
import HandS.OwnEq
import KE.KOpsOwn
import PyProof.InstNe
import HandS.TupSets
import HandS.Style
import HandS.IterVal
set_option Elab.async false
set_option linter.all false
set_option maxRecDepth 100000
set_option maxHeartbeats 3900000
namespace T5
open PySem PySem.Spec PyProof.Rows L2
open C8 (pss_cut tCut pe_gc)
def top (i : Nat) : Stmt := PySem.Challenge.pw_trueagain_k12_steps_made.main.body.getD i (.Pass ⟨0, 0, 0, 0⟩)
abbrev sDraw : Stmt := top 30
abbrev sPick : Stmt := top 31
abbrev sMixed : Stmt := top 32
abbrev sFresh : Stmt := top 34
abbrev sPool : Stmt := top 35
abbrev sPath : Stmt := top 36
abbrev sText : Stmt := top 37
def SV (H : Hp) (st l : Addr) (ns : List Int) (a c m : Int) : Prop := H st = some (.lst [.ref l, .int a, .int c, .int m]) ∧ H l = some (.lst (ns.map V.int))
theorem SV.ne {H : Hp} {st l : Addr} {ns : List Int} {a c m : Int} (S : SV H st l ns a c m) : st ≠ l := by
  refine ne_of S.1 S.2 fun z => ?_
  have z2 : [V.ref l, V.int a, V.int c, V.int m] = ns.map V.int := HO.lst.inj z
  cases ns with
  | nil => cases z2
  | cons n r =>
    rw [List.map_cons] at z2
    have := (List.cons.inj z2).1
    cases this
def Good (H : Hp) (st l : Addr) (c : Int) : Prop := ∃ (ns : List Int) (a m : Int), SV H st l ns a c m ∧ ns.length ≤ 63 ∧ 0 ≤ a ∧ 0 ≤ m ∧ m < 2147483647
structure Strm (H : Hp) (st l : Addr) (c : Nat) : Prop where
  ex : Good H st l (c : Int)
theorem Strm.ne {H : Hp} {st l : Addr} {c : Nat} (S : Strm H st l c) : st ≠ l := by
  obtain ⟨ns, a, m, h, _⟩ := S.ex
  exact h.ne
def But (st l : Addr) (H H' : Hp) : Prop := ∀ b o, H b = some o → b ≠ st → b ≠ l → H' b = some o
theorem But.refl {st l : Addr} {H : Hp} : But st l H H := fun _ _ e _ _ => e
theorem But.st {st l : Addr} {H H' : Hp} {o : HO} (B : But st l H H') : But st l H (upd H' st o) := fun b u e h1 h2 => by
  rw [upd_ne h1]
  exact B b u e h1 h2
theorem But.li {st l : Addr} {H H' : Hp} {o : HO} (B : But st l H H') : But st l H (upd H' l o) := fun b u e h1 h2 => by
  rw [upd_ne h2]
  exact B b u e h1 h2
theorem But.new {st l p : Addr} {H H' : Hp} {o : HO} (B : But st l H H') (h : H' p = none) : But st l H (upd H' p o) := fun b u e h1 h2 => by
  have q := B b u e h1 h2
  rw [upd_ne (ne_of_none q h)]
  exact q
theorem SV.st {H : Hp} {st l : Addr} {ns : List Int} {a c m a' c' m' : Int} {xs : List V} (S : SV H st l ns a c m) (e : xs = [.ref l, .int a', .int c', .int m']) : SV (upd H st (.lst xs)) st l ns a' c' m' := by
  subst e
  refine ⟨upd_same, ?_⟩
  rw [upd_ne S.ne.symm]
  exact S.2
theorem SV.new {H : Hp} {st l p : Addr} {ns : List Int} {a c m : Int} {o : HO} (S : SV H st l ns a c m) (h : H p = none) : SV (upd H p o) st l ns a c m := by
  refine ⟨?_, ?_⟩
  · rw [upd_ne (ne_of_none S.1 h)]
    exact S.1
  · rw [upd_ne (ne_of_none S.2 h)]
    exact S.2
theorem SV.li {H : Hp} {st l : Addr} {ns ns' : List Int} {a c m : Int} {xs : List V} (S : SV H st l ns a c m) (e : xs = ns'.map V.int) : SV (upd H l (.lst xs)) st l ns' a c m := by
  subst e
  refine ⟨?_, upd_same⟩
  rw [upd_ne S.ne]
  exact S.1
def spDraw : Sp := fun vs H Q _ => ∃ (st l : Addr) (c : Nat) (many : Int), vs = [.ref st, .int many] ∧ Strm H st l c ∧ c ≤ 1000000 ∧ 0 < many ∧ many < 1000000 ∧
  ∀ (d : Int) (H' : Hp), 0 ≤ d → d < many → But st l H H' → Strm H' st l (c + 1) → Q (.int d) H'
structure TDraw (mg : Str → Option Value) : Prop where
  int : mg "int" = none
section
variable {P : Program} {w : World} {K : PySem.W.Frag} {mg : Str → Option Value} {base : Heap}
theorem dp_ints {H : Hp} : ∀ ns : List Int, DpAll K H (ns.map V.int) (ns.map PyData.int)
  | [] => .nil
  | n :: r => .cons (.int n) (dp_ints r)
theorem scD : FnScope ["_law_stream", "_law_many", "_law_digit", "_law_mixed_here"] ["_law_stream", "_law_many"] (defScope sDraw) := ⟨rfl, rfl, rfl, by decide +kernel, rfl, by decide +kernel, by decide +kernel⟩
theorem ok_draw {f : Addr} {fd : FuncData} (F : Fun K "_law_draw" "_law_draw" sDraw f fd) (T : TDraw mg) : FnOk P w K mg base CX0 1 f fd ["_law_stream", "_law_many"] spDraw := by
  refine F.ok scD (fun vs H Q E h => ?_) (fun cdv A outer s H vs Q E hr h => ?_)
  · obtain ⟨st, l, c, many, rfl, _⟩ := h
    rfl
  · obtain ⟨st, l, c, many, rfl, S, hc, hm0, hm1, k⟩ := h
    have hu := hr.units
    refine ⟨_, pss_cut (ps_asg (pe_op op_add (pe_ix ix_list (pv 0) pe_int (fun _ _ => rfl)) pe_int) (pg_sub (pv 0) pe_int set_list))
      (pss_cut (ps_if (PW.pt (pw_and (pt_cmpR op_eq (pe_ix ix_list (pv 0) pe_int (fun _ _ => rfl)) pe_int (nomark _)) (pw_and1 (pt_cmpR (op_neD hu) (pe_ix ix_list (pv 0) pe_int (fun _ _ => rfl)) (pe_lst pa_nil) (nomark _)))))
        (pss_cut (ps_asg (pe_bm PySem.F.plainAttrs_list PySem.F.slot_list_pop PySem.F.type_list_pop mt_popAt (pe_ix ix_list (pv 0) pe_int (fun _ _ => rfl)) (pa_cons pe_int pa_nil)) (pg_sub (pv 0) pe_int set_list))
          (pss_one (ps_if (pt_cmpR op_lt (pe_ix ix_list (pv 0) pe_int (fun _ _ => rfl)) (pe_op op_pow pe_int pe_int) (nomark _))
            (pss_cut (ps_asg (pe_op op_mod (pe_callTy call_int1 (by rfl) T.int (by decide +kernel) (pa_cons (pe_op op_add (pe_op op_add (pe_op op_mul (pe_ix ix_list (pv 0) pe_int (fun _ _ => rfl)) pe_int) (pe_ix ix_list (pv 0) pe_int (fun _ _ => rfl))) pe_int) pa_nil)) pe_int) (pg_sub (pv 0) pe_int set_list))
              (pss_one (ps_asg pe_int (pg_sub (pv 0) pe_int set_list)))) pss_nil)))
        pss_nil)
      (pss_cut (ps_if (pt_cmpR op_gt (pe_ix ix_list (pv 0) pe_int (fun _ _ => rfl)) pe_int (nomark _))
        (pss_cons (ps_set (i := 2) scD.nd rfl (Or.inl rfl) (pe_op op_mod (pe_callTy call_int1 (by rfl) T.int (by decide +kernel) (pa_cons (pe_ix ix_list (pv 0) pe_int (fun _ _ => rfl)) pa_nil)) (pv 1)))
          (pss_cons (ps_asg (pe_op op_fdivW (pe_ix ix_list (pv 0) pe_int (fun _ _ => rfl)) (pv 1)) (pg_sub (pv 0) pe_int set_list))
            (pss_one (ps_ret (pv 2))))) pss_nil)
      (pss_cons (ps_set (i := 3) scD.nd rfl (Or.inl rfl) (pe_op op_mod (pe_op op_pow (pe_op op_add (pe_op op_add (pe_ix ix_list (pv 0) pe_int (fun _ _ => rfl)) (pe_op op_mul pe_int (pe_ix ix_list (pv 0) pe_int (fun _ _ => rfl)))) pe_int) pe_int) pe_int))
        (pss_one (ps_ret (pe_op op_mod (pe_op op_mod (pe_op op_pow (pe_op op_add (pe_op op_add (pe_op op_mul (pv 3) pe_int)
            (pe_op op_mul (pe_op op_mul pe_int (pe_ix ix_list (pv 0) pe_int (fun _ _ => rfl))) (pe_ix ix_list (pv 0) pe_int (fun _ _ => rfl)))) pe_int) pe_int) pe_int) (pv 1))))))), ?_⟩
    obtain ⟨ns, a, m, hS, hns, ha, hm, hm2⟩ := S.ex
    -- stream[2] = stream[2] + 1
    refine ⟨fun σ H' => σ = [some (.ref st), some (.int many), none, none] ∧ But st l H H' ∧ SV H' st l ns a ((c + 1 : Nat) : Int) m,
      ⟨_, rfl, st, _, _, _, rfl, rfl, SqL.of hS.1, rfl, _, _, rfl, rfl, _, rfl, st, _, 2, 2, rfl, rfl, hS.1, rfl, rfl, But.refl.st, hS.st rfl⟩, ?_⟩
    rintro _ H1 ⟨rfl, B1, S1⟩
    -- if stream[1] == 0 and stream[0] != []: ..
    refine ⟨fun σ H' => σ = [some (.ref st), some (.int many), none, none] ∧ But st l H H' ∧ Good H' st l ((c + 1 : Nat) : Int),
      ⟨_, rfl, st, _, _, _, rfl, rfl, SqL.of S1.1, rfl, rfl, _, rfl, ?_⟩, ?_⟩
    · refine ite2 (fun ea => ?_) (fun _ => iteF ⟨rfl, B1, ns, a, m, S1, hns, ha, hm, hm2⟩)
      refine ⟨_, rfl, st, _, _, _, rfl, rfl, SqL.of S1.1, rfl, Nat.zero_le _, fun p hp => ?_⟩
      have S2 := S1.new (o := .lst []) hp
      have B2 := B1.new (o := .lst []) hp
      refine ⟨.list (ns.map .int), .list [], .lst (SqL.of S2.2) ?_, .lst (SqL.of upd_same) .nil, ?_, rfl, _, rfl, ?_⟩
      · exact dp_ints ns
      · exact PySem.W.shaped_ints ns
      · cases ns with
        | nil => exact iteF ⟨rfl, B2, [], a, m, S2, hns, ha, hm, hm2⟩
        | cons n r =>
          refine iteT ?_
          have hns' : r.length ≤ 63 := by
            rw [List.length_cons] at hns
            omega
          have e0 : seqIndex? 0 (((n :: r).map V.int).length) = some 0 := by
            rw [List.length_map, List.length_cons]
            simp [seqIndex?]
          -- stream[1] = stream[0].pop(0)
          refine ⟨fun σ H' => σ = [some (.ref st), some (.int many), none, none] ∧ But st l H H' ∧ SV H' st l r n ((c + 1 : Nat) : Int) m,
            ⟨_, rfl, st, _, _, _, rfl, rfl, SqL.of S2.1, rfl, .inl ⟨rfl, _, SqL.of S2.2⟩, l, _, 0, 0, _, rfl, rfl, S2.2, by decide, by decide, e0, rfl, _, rfl, st, _, 1, 1, rfl, rfl, (S2.li (ns' := r) rfl).1, rfl, rfl, B2.li.st, (S2.li (ns' := r) rfl).st rfl⟩, ?_⟩
          rintro _ H3 ⟨rfl, B3, S3⟩
          -- if stream[1] < 10 ** 18: ..
          refine ⟨_, rfl, st, _, _, _, rfl, rfl, SqL.of S3.1, rfl, _, _, rfl, rfl, ⟨by decide, by decide, by decide⟩, _, _, rfl, rfl, _, rfl, ?_⟩
          refine ite2 (fun lt => ?_) (fun ge => ?_)
          · refine ⟨fun σ H' => σ = [some (.ref st), some (.int many), none, none] ∧ But st l H H' ∧ ∃ m' : Int, SV H' st l r n ((c + 1 : Nat) : Int) m' ∧ 0 ≤ m' ∧ m' < 2147483647,
              ⟨_, rfl, st, _, _, _, rfl, rfl, SqL.of S3.1, rfl, _, _, rfl, rfl, .inr ⟨by decide, by decide⟩, _, rfl, st, _, _, _, rfl, rfl, SqL.of S3.1, rfl, _, _, rfl, rfl, _, _, rfl, rfl, .inl ⟨_, rfl, _, _, rfl, rfl, (by show (0 : Int) < 2147483647; decide),
                _, rfl, st, _, 3, 3, rfl, rfl, S3.1, rfl, rfl, B3.st, _, S3.st rfl, Int.emod_nonneg _ (by decide), Int.emod_lt_of_pos _ (by decide)⟩⟩, ?_⟩
            rintro _ H4 ⟨rfl, B4, m', S4, h1, h2⟩
            exact ⟨_, rfl, st, _, 1, 1, rfl, rfl, S4.1, rfl, rfl, B4.st, r, 0, m', S4.st rfl, hns', by decide, h1, h2⟩
          · have ge' : ¬ n < (10 : Int) ^ (18 : Int).toNat := fun z => ge (decide_eq_true z)
            have e : (10 : Int) ^ (18 : Int).toNat = 1000000000000000000 := by decide
            rw [e] at ge'
            exact ⟨rfl, B3, r, n, m, S3, hns', by omega, hm, hm2⟩
    · rintro _ H3 ⟨rfl, B3, ns3, a3, m3, S3, hns3, ha3, hm3, hm33⟩
      have ml : many.natAbs.log2 < 9000 := by
        have := PySem.Flt.log2_lt_of (k := 20) (by decide) (show many.natAbs < 2 ^ 20 by omega)
        omega
      -- if stream[1] > 0: ..
      refine ⟨fun σ H' => σ = [some (.ref st), some (.int many), none, none] ∧ But st l H H' ∧ Good H' st l ((c + 1 : Nat) : Int),
        ⟨_, rfl, st, _, _, _, rfl, rfl, SqL.of S3.1, rfl, _, _, rfl, rfl, _, rfl, ?_⟩, ?_⟩
      · refine ite2 (fun _ => ?_) (fun _ => ⟨rfl, B3, ns3, a3, m3, S3, hns3, ha3, hm3, hm33⟩)
        refine ⟨_, rfl, st, _, _, _, rfl, rfl, SqL.of S3.1, rfl, .inl ⟨_, rfl, _, rfl, _, _, rfl, rfl, hm0, ?_⟩⟩
        refine ⟨_, rfl, st, _, _, _, rfl, rfl, SqL.of S3.1, rfl, _, rfl, _, _, rfl, rfl, ⟨hm0, ml⟩, _, rfl, st, _, 1, 1, rfl, rfl, S3.1, rfl, _, rfl, ?_⟩
        exact k _ _ (Int.emod_nonneg _ (by omega)) (Int.emod_lt_of_pos _ hm0) B3.st ⟨ns3, a3 / many, m3, S3.st rfl, hns3, Int.ediv_nonneg ha3 (by omega), hm3, hm33⟩
      · rintro _ H4 ⟨rfl, B4, ns4, a4, m4, S4, hns4, ha4, hm4, hm44⟩
        refine ⟨_, rfl, st, _, _, _, rfl, rfl, SqL.of S4.1, rfl, _, rfl, st, _, _, _, rfl, rfl, SqL.of S4.1, rfl, _, _, rfl, rfl, .inl ⟨by decide, by decide⟩, _, _, rfl, rfl, _, _, rfl, rfl, _, _, rfl, rfl, ⟨by decide, by decide, by omega⟩, _, _, rfl, rfl, (by show (0 : Int) < 2147483629; decide), ?_⟩
        generalize hx : (m4 + 104729 * ((c + 1 : Nat) : Int) + 17) ^ (5 : Int).toNat % 2147483629 = x
        have x0 : 0 ≤ x := by
          rw [← hx]
          exact Int.emod_nonneg _ (by decide)
        have x1 : x < 2147483629 := by
          rw [← hx]
          exact Int.emod_lt_of_pos _ (by decide)
        have cc : 40503 * ((c + 1 : Nat) : Int) * ((c + 1 : Nat) : Int) ≤ 40503 * 1000001 * 1000001 := Int.mul_le_mul (by omega) (by omega) (by omega) (by decide)
        have c0 : 0 ≤ 40503 * ((c + 1 : Nat) : Int) * ((c + 1 : Nat) : Int) := Int.mul_nonneg (by omega) (by omega)
        refine ⟨_, rfl, _, _, rfl, rfl, .inr ⟨by decide, by decide⟩, _, rfl, st, _, _, _, rfl, rfl, SqL.of S4.1, rfl, _, _, rfl, rfl, .inl ⟨by decide, by decide⟩, _, rfl, st, _, _, _, rfl, rfl, SqL.of S4.1, rfl, _, _, rfl, rfl, .inr ⟨by omega, by omega⟩,
          _, _, rfl, rfl, _, _, rfl, rfl, _, _, rfl, rfl, ⟨by decide, by decide, by omega⟩, _, _, rfl, rfl, (by show (0 : Int) < 1000000007; decide), _, rfl, _, _, rfl, rfl, hm0, ?_⟩
        exact k _ _ (Int.emod_nonneg _ (by omega)) (Int.emod_lt_of_pos _ hm0) B4 ⟨ns4, a4, m4, S4, hns4, ha4, hm4, hm44⟩
end
theorem at_int {α : Type} {xs : List α} {d : Int} (d0 : 0 ≤ d) (d1 : d < xs.length) : ∃ (i : Nat) (x : α), xs[i]? = some x ∧ atI xs d = some x := by
  obtain ⟨n, rfl⟩ := Int.eq_ofNat_of_zero_le d0
  have hlt : n < xs.length := by omega
  exact ⟨n, xs[n], List.getElem?_eq_getElem hlt, atI_nat (List.getElem?_eq_getElem hlt)⟩
theorem But.trans {st l : Addr} {H H1 H2 : Hp} (a : But st l H H1) (b : But st l H1 H2) : But st l H H2 := fun c o h n1 n2 => b c o (a c o h n1 n2) n1 n2
theorem But.same {st l : Addr} {H H1 : Hp} (a : Same H H1) : But st l H H1 := fun c o h _ _ => a c o h
theorem Strm.up {H H' : Hp} {st l : Addr} {c : Nat} (S : Strm H st l c) (e : Same H H') : Strm H' st l c := by
  obtain ⟨ns, a, m, ⟨h1, h2⟩, r⟩ := S.ex
  exact ⟨ns, a, m, ⟨e _ _ h1, e _ _ h2⟩, r⟩
theorem same_new {H : Hp} {p : Addr} {o : HO} (h : H p = none) : Same H (upd H p o) := fun a u e => by
  rw [upd_ne (ne_of_none e h)]
  exact e
theorem Strm.ne_new {H : Hp} {st l p : Addr} {c : Nat} (S : Strm H st l c) (h : H p = none) : p ≠ st ∧ p ≠ l := by
  obtain ⟨ns, a, m, ⟨h1, h2⟩, r⟩ := S.ex
  exact ⟨(ne_of_none h1 h).symm, (ne_of_none h2 h).symm⟩
theorem But.put {st l p : Addr} {H H' : Hp} {o : HO} (a : But st l H H') (h : H p = none) : But st l H (upd H' p o) := fun c u e n1 n2 => by
  rw [upd_ne (ne_of_none e h)]
  exact a c u e n1 n2
theorem Strm.put {H : Hp} {st l p : Addr} {c : Nat} {o : HO} (S : Strm H st l c) (n : p ≠ st ∧ p ≠ l) : Strm (upd H p o) st l c := by
  obtain ⟨ns, a, m, ⟨h1, h2⟩, r⟩ := S.ex
  exact ⟨ns, a, m, ⟨by rw [upd_ne n.1.symm]; exact h1, by rw [upd_ne n.2.symm]; exact h2⟩, r⟩
def spPickL : Sp := fun vs H Q _ => ∃ (st l : Addr) (c : Nat) (p : Addr) (xs : List V), vs = [.ref st, .ref p] ∧ Strm H st l c ∧ c ≤ 1000000 ∧ H p = some (.lst xs) ∧ p ≠ st ∧ p ≠ l ∧ 0 < xs.length ∧ xs.length < 1000 ∧
  ∀ (i : Nat) (x : V) (H' : Hp), xs[i]? = some x → But st l H H' → Strm H' st l (c + 1) → Q x H'
def spPickS : Sp := fun vs H Q _ => ∃ (st l : Addr) (c : Nat) (z : Str), vs = [.ref st, .str z] ∧ Strm H st l c ∧ c ≤ 1000000 ∧ 0 < z.length ∧ z.length < 1000 ∧
  ∀ (ch : Nat) (H' : Hp), ch ∈ z.cps.toList → But st l H H' → Strm H' st l (c + 1) → Q (.str ⟨#[ch]⟩) H'
def spPick : Sp := fun vs H Q E => spPickL vs H Q E ∨ spPickS vs H Q E
structure TG1 (K : PySem.W.Frag) (mg : Str → Option Value) (fD : Addr) (fdD : FuncData) : Prop where
  int : mg "int" = none
  len : mg "len" = none
  range : mg "range" = none
  list : mg "list" = none
  mD : mg "_law_draw" = some (.ref fD)
  kD : PySem.W.keepIn K (.ref fD) = true
  bD : L2.Binds K fdD ["_law_stream", "_law_many"] []
section
variable {P : Program} {w : World} {K : PySem.W.Frag} {mg : Str → Option Value} {base : Heap} {fD : Addr} {fdD : FuncData}
theorem scP : FnScope ["_law_stream", "_law_things"] ["_law_stream", "_law_things"] (defScope sPick) := ⟨rfl, rfl, rfl, by decide +kernel, rfl, by decide +kernel, by decide +kernel⟩
theorem ok_pick {f : Addr} {fd : FuncData} (F : Fun K "_law_pick" "_law_pick" sPick f fd) (T : TG1 K mg fD fdD) (GD : FnOk P w K mg base CX0 1 fD fdD ["_law_stream", "_law_many"] spDraw) : FnOk P w K mg base CX0 2 f fd ["_law_stream", "_law_things"] spPick := by
  refine F.ok scP (fun vs H Q E h => ?_) (fun cdv A outer s H vs Q E hr h => ?_)
  · rcases h with ⟨st, l, c, p, xs, rfl, _⟩ | ⟨st, l, c, z, rfl, _⟩
    · rfl
    · rfl
  · rcases h with ⟨st, l, c, p, xs, rfl, S, hc, hp, n1, n2, h0, h1, k⟩ | ⟨st, l, c, z, rfl, S, hc, h0, h1, k⟩
    · refine ⟨_, pss_one (ps_ret (pe_ix ix_list (pv 1) (pe_call GD hr rfl T.mD T.kD T.bD .nil pass0 (pa_cons (pv 0) (pa_cons (pe_callB call_len_seq (by rfl) T.len PySem.boot_len (pa_cons (pv 1) pa_nil)) pa_nil))) (fun _ _ => rfl))), ?_⟩
      refine ⟨_, rfl, _, rfl, _, rfl, p, xs, rfl, .inl (SqL.of hp), st, l, c, _, rfl, S, hc, by omega, by omega, fun d H' d0 d1 B S' => ?_⟩
      have hp' := B _ _ hp n1 n2
      obtain ⟨i, x, hx, ha⟩ := at_int d0 d1
      exact ⟨p, xs, d, x, rfl, rfl, SqL.of hp', ha, k _ _ _ hx B S'⟩
    · refine ⟨_, pss_one (ps_ret (pe_ix ix_str (pv 1) (pe_call GD hr rfl T.mD T.kD T.bD .nil pass0 (pa_cons (pv 0) (pa_cons (pe_callB call_len_str (by rfl) T.len PySem.boot_len (pa_cons (pv 1) pa_nil)) pa_nil))) (fun _ _ => rfl))), ?_⟩
      have hzs : z.length ≤ sizeLine := Nat.le_of_lt (Nat.lt_of_lt_of_le h1 (by decide))
      refine ⟨_, rfl, _, rfl, _, rfl, z, rfl, hzs, st, l, c, _, rfl, S, hc, by omega, by omega, fun d H' d0 d1 B S' => ?_⟩
      have el : z.cps.toList.length = z.length := by simp [Str.length]
      obtain ⟨i, x, hx, ha⟩ := at_int (xs := z.cps.toList) d0 (by rw [el]; exact d1)
      exact ⟨z, d, x, rfl, rfl, hzs, ha, k _ _ (List.mem_of_getElem? hx) B S'⟩
end
end T5

set_option maxHeartbeats 3900000
namespace RP
open PySem PySem.Spec PyProof.Rows L2
def kD : Key → PyData
  | .inl i => .int i
  | .inr x => .str x
mutual
/-- what the value v is, read off the tracked heap -/
inductive Dq (K : PySem.W.Frag) (H : Hp) : V → PyData → Prop
  | non : Dq K H .non .none
  | bl (b : Bool) : Dq K H (.bl b) (.bool b)
  | int (i : Int) : Dq K H (.int i) (.int i)
  | str (x : Str) : Dq K H (.str x) (.str x)
  | lst {a : Addr} {xs : List V} {ds : List PyData} : H a = some (.lst xs) → DqAll K H xs ds → Dq K H (.ref a) (.list ds)
  | tup {a : Addr} {xs : List V} {ds : List PyData} : H a = some (.tup xs) → DqAll K H xs ds → Dq K H (.ref a) (.tuple ds)
  | dct {a : Addr} {kvs : List (Key × V)} {ds : List PyData} : H a = some (.dK kvs) → DqAll K H (kvs.map (·.2)) ds → Dq K H (.ref a) (.dict ((kvs.map fun p => kD p.1).zip ds))
inductive DqAll (K : PySem.W.Frag) (H : Hp) : List V → List PyData → Prop
  | nil : DqAll K H [] []
  | cons {v : V} {vs : List V} {d : PyData} {ds : List PyData} : Dq K H v d → DqAll K H vs ds → DqAll K H (v :: vs) (d :: ds)
end
mutual
theorem Dq.up {K : PySem.W.Frag} {H H' : Hp} (e : ∀ a o, H a = some o → H' a = some o) : ∀ {v : V} {d : PyData}, Dq K H v d → Dq K H' v d
  | _, _, .non => .non
  | _, _, .bl b => .bl b
  | _, _, .int i => .int i
  | _, _, .str x => .str x
  | _, _, .lst h t => .lst (e _ _ h) (DqAll.up e t)
  | _, _, .tup h t => .tup (e _ _ h) (DqAll.up e t)
  | _, _, .dct h t => .dct (e _ _ h) (DqAll.up e t)
theorem DqAll.up {K : PySem.W.Frag} {H H' : Hp} (e : ∀ a o, H a = some o → H' a = some o) : ∀ {vs : List V} {ds : List PyData}, DqAll K H vs ds → DqAll K H' vs ds
  | _, _, .nil => .nil
  | _, _, .cons h t => .cons (Dq.up e h) (DqAll.up e t)
end
theorem DqAll.length {K : PySem.W.Frag} {H : Hp} : ∀ {vs : List V} {ds : List PyData}, DqAll K H vs ds → vs.length = ds.length
  | _, _, .nil => rfl
  | _, _, .cons _ t => congrArg Nat.succ t.length
section
variable {X : Cx} {pins : List (Addr × Obj)} {σ : L2.St} {H : Hp} {s : Shared}
theorem not_sys (I : Inv X pins σ H s) (SM : (X.base.get? sysModules).isSome = true) {a : Addr} {o : HO} (h : H a = some o) : a ≠ sysModules := fun z => by
  obtain ⟨u, hu⟩ := Option.isSome_iff_exists.mp SM
  have := (I.bs _ _ hu).2
  rw [← z, h] at this
  cases this
theorem keys_read {P : Program} {w : World} {h : Heap} : ∀ {es : List DictEntry} {kvs : List (Key × V)} {vs : List (Key × Value)}, Pairs (mixKind P w) es vs → KV kvs vs → ReadsAll h (es.map (·.key)) (kvs.map fun p => kD p.1) []
  | _, _, _, .nil, .nil => .nil
  | _, _, _, .cons (e := e) (kv := kv) k1 _ t, .cons r q => by
    have ih := keys_read (h := h) t q
    obtain ⟨e1, _⟩ := r
    rw [List.map_cons, List.map_cons, e1]
    have k1' : keyIs kv.1 e.key = true := k1
    rcases keyIs_shape k1' with ⟨i, t, hk, hv⟩ | ⟨x, t, hk, hv⟩
    · rw [hk, hv]
      exact .cons (.int i t) ih
    · rw [hk, hv]
      exact .cons (.str x t) ih
theorem vals_read {P : Program} {w : World} : ∀ {es : List DictEntry} {kvs : List (Key × V)} {vs : List (Key × Value)}, Pairs (mixKind P w) es vs → KV kvs vs → Vals (kvs.map (·.2)) (es.map (·.val))
  | _, _, _, .nil, .nil => .nil
  | _, _, _, .cons _ k2 t, .cons r q => by
    have ih := vals_read t q
    obtain ⟨_, e2⟩ := r
    rw [List.map_cons, List.map_cons, k2]
    exact .cons e2 ih
mutual
theorem Dq.reads (I : Inv X pins σ H s) (SM : (X.base.get? sysModules).isSome = true) : ∀ {v : V} {d : PyData} {u : Value}, Dq X.K H v d → RelV v u → ∃ as, Reads s.heap u d as ∧ sysModules ∉ as
  | _, _, _, .non, r => by
    cases r
    exact ⟨_, Reads.none, by simp⟩
  | _, _, _, .bl b, r => by
    cases r
    exact ⟨_, Reads.bool b, by simp⟩
  | _, _, _, .int i, r => by
    obtain ⟨t, rfl⟩ := r
    exact ⟨_, Reads.int i t, by simp⟩
  | _, _, _, .str x, r => by
    obtain ⟨t, rfl⟩ := r
    exact ⟨_, Reads.str x t, by simp⟩
  | _, _, _, .lst (a := a) h ha, r => by
    cases r
    obtain ⟨_, its, n, rv, ho⟩ := (show ObjOk X.prog X.w H s.heap a (.lst _) from I.hok a _ h)
    obtain ⟨as, hr, hn⟩ := DqAll.reads I SM ha rv
    exact ⟨_, Reads.list ho rfl rfl hr, by
      intro z
      rcases List.mem_cons.mp z with z | z
      · exact not_sys I SM h z.symm
      · exact hn z⟩
  | _, _, _, .tup (a := a) h ha, r => by
    cases r
    obtain ⟨_, its, rv, o, ho, hc, n, hd⟩ := (show ObjOk X.prog X.w H s.heap a (.tup _) from I.hok a _ h)
    obtain ⟨as, hr, hn⟩ := DqAll.reads I SM ha rv
    exact ⟨_, Reads.tuple ho hc hd hr, hn⟩
  | _, _, _, .dct (a := a) (kvs := kvs) (ds := ds) h ha, r => by
    cases r
    obtain ⟨_, _, vs, rel, o, es, ep, ho, ex, hd, _, pr, _⟩ := (show ObjOk X.prog X.w H s.heap a (.dK kvs) from I.hok a _ h)
    obtain ⟨bs, hr, hn⟩ := DqAll.reads I SM ha (vals_read pr rel)
    have le : (kvs.map fun p => kD p.1).length = ds.length := by
      have := ha.length
      rw [List.length_map] at this ⊢
      exact this
    refine ⟨_, Reads.dict ho ex.1 hd (as := []) (bs := bs) ?_ ?_, ?_⟩
    · rw [List.map_fst_zip (by omega)]
      exact keys_read pr rel
    · rw [List.map_snd_zip (by omega)]
      exact hr
    · intro z
      rcases List.mem_cons.mp z with z | z
      · exact not_sys I SM h z.symm
      · exact hn z
theorem DqAll.reads (I : Inv X pins σ H s) (SM : (X.base.get? sysModules).isSome = true) : ∀ {vs : List V} {ds : List PyData} {us : List Value}, DqAll X.K H vs ds → Vals vs us → ∃ as, ReadsAll s.heap us ds as ∧ sysModules ∉ as
  | _, _, _, .nil, r => by
    cases r
    exact ⟨_, ReadsAll.nil, by simp⟩
  | _, _, _, .cons h t, r => by
    cases r with
    | cons r1 r2 =>
      obtain ⟨as, q1, n1⟩ := Dq.reads I SM h r1
      obtain ⟨bs, q2, n2⟩ := DqAll.reads I SM t r2
      exact ⟨_, ReadsAll.cons q1 q2, by
        intro z
        rcases List.mem_append.mp z with z | z
        · exact n1 z
        · exact n2 z⟩
end
def rRep (K : PySem.W.Frag) : List V → Hp → VK → Prop := fun xs H Q => ∃ (v : V) (d : PyData), xs = [v] ∧ Dq K H v d ∧ d.showable = true ∧ d.depth ≤ 20 ∧ d.shown.length ≤ sizeLine ∧ Q (.str d.shown) H
theorem call_repr (SM : (X.base.get? sysModules).isSome = true) (hg : X.A.guards = some []) (hu : X.A.units + 64 < cLine) : CallR X (.builtin "repr") (rRep X.K) := by
  intro pins s σ H xs us Q I r h
  obtain ⟨v, d, rfl, hd, sh, dp, sz, q⟩ := h
  cases r with
  | cons rx rr =>
    cases rr
    obtain ⟨as, hr, hn⟩ := hd.reads I SM rx
    have fin : ∀ h' u tk, (∀ b o, s.heap.get? b = some o → h'.get? b = some o) → EP X pins σ Q (.str d.shown u) { s with heap := h', toks := tk } := fun h' u tk k => ⟨.str d.shown, H, I.kept (t' := tk) k, ⟨u, rfl⟩, q⟩
    cases hd with
    | non =>
      cases rx
      exact PySem.P.repr_of_none (fin s.heap _ _ fun _ _ e => e)
    | bl b =>
      cases rx
      exact PySem.P.repr_of_bool (fin s.heap _ _ fun _ _ e => e)
    | int i =>
      obtain ⟨t, rfl⟩ := rx
      exact PySem.P.repr_of_int (of_decide_eq_true sh) (fin s.heap _ _ fun _ _ e => e)
    | str x =>
      obtain ⟨t, rfl⟩ := rx
      exact PySem.P.repr_of_str (fin s.heap _ _ fun _ _ e => e) sz
    | lst h1 h2 =>
      cases rx
      exact PySem.repr_of_reads' hr sh (fun _ => hn) hg (by omega) (fun _ _ e => e) fin sz
    | tup h1 h2 =>
      cases rx
      exact PySem.repr_of_reads' hr sh (fun _ => hn) hg (by omega) (fun _ _ e => e) fin sz
    | dct h1 h2 =>
      cases rx
      exact PySem.repr_of_reads' hr sh (fun _ => hn) hg (by omega) (fun _ _ e => e) fin sz
end
structure FnG (P : Program) (w : World) (K : PySem.W.Frag) (mg : Str → Option Value) (base : Heap) (CX : CXT) (k : Nat) (f : Addr) (fd : FuncData) (ps : List Str) (sp : Sp) : Prop where
  len : ∀ vs H Q E, sp vs H Q E → vs.length = ps.length
  run : ∀ (A : Around) (outer : List Env) (s : Shared) (H : Hp) (args : Args) (us : List Value) (vs : List V) (Q : VK) (E : XK), A.guards = some [] → Room k A → Env0 P w K mg base A outer s H → BindsTo s fd args (ps.zip us) → Vals vs us → sp vs H Q E →
    codeAny (model P w) A (.call (.ref f) args) (CR CX outer P w H s Q E) s
theorem FnG.of {P : Program} {w : World} {K : PySem.W.Frag} {mg : Str → Option Value} {base : Heap} {CX : CXT} {k : Nat} {f : Addr} {fd : FuncData} {ps : List Str} {sp : Sp} (F : FnOk P w K mg base CX k f fd ps sp) : FnG P w K mg base CX k f fd ps sp :=
  ⟨F.len, fun A outer s H args us vs Q E _ hr e0 hb rv q => F.run A outer s H args us vs Q E hr e0 hb rv q⟩
theorem okG {P : Program} {w : World} {K : PySem.W.Frag} {mg : Str → Option Value} {base : Heap} {x qual : Str} {st : Stmt} {f : Addr} {fd : FuncData} {N ps : List Str} {k : Nat} {sp : Sp} (F : Fun K x qual st f fd) (S : FnScope N ps (defScope st))
    (len : ∀ vs H Q E, sp vs H Q E → vs.length = ps.length)
    (body : ∀ (cdv : Value) (A : Around) (outer : List Env) (s : Shared) (H : Hp) (vs : List V) (Q : VK) (E : XK), A.guards = some [] → Room k (A.deeper (envOfC qual (defScope st) s.heap.objs.size f cdv)) → sp vs H Q E →
      ∃ t, PSs (cxOf CX0 P w K mg base N qual (defScope st) f cdv A outer s H E).nox (defBody st) t ∧ t { nx := fun _ H' => Q .non H', rt := Q } (start N vs) H) : FnG P w K mg base CX0 (k + 1) f fd ps sp := by
  obtain ⟨oc, od, kV, doc, pm, an, cdv, ct, osl, rfl, lk, hcd⟩ := F.ex
  refine ⟨len, fun A outer s H args us vs Q E hg hr e0 hb rv q => ?_⟩
  refine LamX.run_ofS lk hcd S hr e0 hb rv (len _ _ _ _ q) fun hr' => ?_
  obtain ⟨t, h1, h2⟩ := body cdv A outer s H vs Q E hg hr' q
  exact ⟨t, h1.nox, h2⟩
section
variable {X : Cx} {CX : CXT} {k : Nat} {f : Addr} {fd : FuncData} {ps : List Str} {sp : Sp} {E : XK} {x : Str} {p pos : Pos} {e : Expr} {es : List Expr} {t : TA}
theorem pe_callG (F : FnG X.prog X.w X.K X.mg X.base CX k f fd ps sp) (hG : X.A.guards = some []) (hr : Room k X.A) (hg : Gl X x) (hm : X.mg x = some (.ref f)) (hk : PySem.W.keepIn X.K (.ref f) = true) (hb : Binds X.K fd ps []) (hx : Passes CX X E)
    (ha : PA X (e :: es) t) (hdb : (x == ("__debug__" : Str)) = false := by decide) (he : starEach (e :: es) X.env = (false, eval e X.env) :: starEach es X.env := by rfl) (hpl : (backTo pos (starEach es X.env)).any (·.1) = false := by rfl) :
    PE X (.Call (.Name x p) (e :: es) [] pos) (tCall sp [] E t) := by
  refine ⟨fun pins s σ H Q I h => ?_⟩
  refine wpAny_Call_Name_kw (ld_glob I hg hm ?_ hdb)
  refine PySem.W.callWith_K (h₀ := X.base) I.ok.mod.kin hk (thn (ha.run pos pins s σ H _ I h) fun us s1 ⟨vs, H1, I1, r, q⟩ => ⟨I1.kIn, ?_⟩) he hpl
  have q : sp vs H1 Q E := by
    have z : sp (vs ++ []) H1 Q E := q
    rw [List.append_nil] at z
    exact z
  have hl : us.length = ps.length := r.length.symm.trans (F.len _ _ _ _ q)
  have hbt := hb s1 us I1.kIn (by rw [List.append_nil]; exact hl)
  rw [List.append_nil] at hbt
  refine wpAny_call (codeAny_mono (F.run X.A X.stack s1 H1 ⟨us, []⟩ us vs Q E hG hr I1.env0 hbt r q) fun r s' hq => ?_)
  cases r with
  | error e => exact hx pins σ H1 s1 e s' I1 hq
  | ok fl =>
    cases fl with
    | ret u => exact I1.after hq
    | next => exact False.elim hq
    | brk => exact False.elim hq
    | cont => exact False.elim hq
end
end RP

set_option maxHeartbeats 3900000
namespace EG
open PySem PySem.Spec PyProof.Rows L2 LamX RP
section
variable {P : Program} {w : World} {K : PySem.W.Frag} {tabs : List Addr} {a : Addr} {ob : Obj} {xs : List V}
def track (K : PySem.W.Frag) (tabs : List Addr) (a : Addr) (ob : Obj) (xs : List V) : Hp := fun b =>
  if b ∈ tabs then some (.tbl #[]) else if b = a ∧ K.lookup a = none then some (.frz ob (.lst xs)) else none
theorem track_cases (b : Addr) : (b ∈ tabs ∧ track K tabs a ob xs b = some (.tbl #[])) ∨ (b ∉ tabs ∧ b = a ∧ K.lookup a = none ∧ track K tabs a ob xs b = some (.frz ob (.lst xs))) ∨
    (b ∉ tabs ∧ (b = a → K.lookup a ≠ none) ∧ track K tabs a ob xs b = none) := by
  unfold track
  by_cases h1 : b ∈ tabs
  · exact .inl ⟨h1, if_pos h1⟩
  · by_cases h2 : b = a ∧ K.lookup a = none
    · exact .inr (.inl ⟨h1, h2.1, h2.2, by rw [if_neg h1, if_pos h2]⟩)
    · exact .inr (.inr ⟨h1, fun e z => h2 ⟨e, z⟩, by rw [if_neg h1, if_neg h2]⟩)
end
theorem end_call {P : Program} {w : World} {K : PySem.W.Frag} {mg mb : Str → Option Value} {k : Nat} {fa a : Addr} {cs : List (Addr × Addr)} {fd : FuncData} {x : Str} {sp : Sp} {s : Shared} {us : List Value} {ns : List Int}
    (kin : K.In s.heap) (gn : s.heap.Ns mainGlobals mg) (bn : s.heap.Ns builtinsNs mb) (bb : ∀ y : Str, y ≠ "__name__" → mb y = bootBuiltins y) (nl : s.heap.NoLimit) (ng : s.gens = #[])
    (tE : ∀ p ∈ cs, s.heap.get? p.2 = some { cls := .none, data := .fields #[] }) (tK : ∀ p ∈ cs, K.lookup p.2 = none) (tC : ∀ p ∈ cs, PySem.W.CodeHd s.heap p.1 p.2)
    (sys : ∃ (o : Obj) (es : Array DictEntry) (n : Nat), s.heap.get? sysModules = some o ∧ o.data = .dict es n)
    (mod : ∃ (m : Addr) (o : Obj), mg "__builtins__" = some (.ref m) ∧ m ≠ builtinsNs ∧ s.heap.get? m = some o ∧ o.cls = .type "module" ∧ o.dict = some builtinsNs ∧ o.data = .plain)
    (ia : s.heap.get? a = some { cls := .type "list", data := .seq us.toArray }) (ii : IntsAre us ns) (il : ns.length ≤ sizeLine) (room : Room k callerA)
    (F : ∀ base : Heap, K.In base → base.Ns mainGlobals mg → (∀ p ∈ cs, TabB base mg p.1 p.2) → (base.get? sysModules).isSome = true → FnG P w K mg base CX0 k fa fd [x] sp) (hb : ∀ (t : Shared) (u : Value), BindsTo t fd ⟨[u], []⟩ [(x, u)])
    (hsp : ∀ H : Hp, (∀ p ∈ cs, H p.2 = some (.tbl #[])) → SqL K H a (ns.map V.int) → sp [.ref a] H (fun v _ => v = .bl true) fun _ _ _ => False) :
    codeAny (model P w) callerA (.call (.ref fa) ⟨[.ref a], []⟩) (fun r t => r = .ok (.ret (.bool true)) ∧ OldK s.heap t.heap ∧ t.os = s.os ∧ AllBare t.gens) s := by
  have rv := vals_ints ii
  have tE' : ∀ b ∈ cs.map (·.2), s.heap.get? b = some { cls := .none, data := .fields #[] } := fun b hb => by
    obtain ⟨p, hp, rfl⟩ := List.mem_map.mp hb
    exact tE p hp
  generalize hob : ({ cls := .type "list", data := .seq us.toArray } : Obj) = ob at ia
  have na : a ∉ cs.map (·.2) := fun z => by
    have q := (tE' a z).symm.trans ia
    rw [← hob] at q
    cases q
  generalize hH : track K (cs.map (·.2)) a ob (ns.map V.int) = H
  have tc := fun b => track_cases (K := K) (tabs := cs.map (·.2)) (a := a) (ob := ob) (xs := ns.map V.int) b
  rw [hH] at tc
  -- what the heap holds is as tracked
  have ok : HOk P w H s.heap := fun b o e => by
    rcases tc b with ⟨h1, h2⟩ | ⟨h1, h2, h3, h4⟩ | ⟨_, _, h4⟩
    · rw [h2] at e
      cases e
      exact tE' b h1
    · rw [h4] at e
      cases e
      subst h2
      exact ⟨ia, by rw [List.length_map]; exact il, us, _, rv, ia.trans (congrArg some hob.symm)⟩
    · rw [h4] at e
      cases e
  -- other objects are not tracked
  have free : ∀ {b : Addr} {o : Obj}, s.heap.get? b = some o → o ≠ ob → o.data ≠ .fields #[] → H b = none := fun {b o} e d1 d2 => by
    rcases tc b with ⟨h1, _⟩ | ⟨_, h2, _, _⟩ | ⟨_, _, h4⟩
    · rw [tE' b h1] at e
      cases e
      exact (d2 rfl).elim
    · rw [h2, ia] at e
      exact (d1 (Option.some.inj e).symm).elim
    · exact h4
  have down : ∀ {b : Addr} {o : Obj}, s.heap.get? b = some o → o ≠ ob → o.data ≠ .fields #[] → (hidT s.heap H).get? b = some o := fun e d1 d2 => hidT_get e (free e d1 d2)
  have dict : ∀ {b : Addr} {m : Str → Option Value}, s.heap.Ns b m → (hidT s.heap H).Ns b m := fun {b m} ⟨o, es, ep, e, d, r⟩ =>
    ⟨o, es, ep, down e (fun z => by rw [z, ← hob] at d; cases d) (fun z => by rw [d] at z; cases z), d, r⟩
  have kB : K.In (hidT s.heap H) := fun b o e => hidT_get (kin b o e) (by
    rcases tc b with ⟨h1, _⟩ | ⟨_, h2, h3, _⟩ | ⟨_, _, h4⟩
    · obtain ⟨p, hp, rfl⟩ := List.mem_map.mp h1
      rw [tK p hp] at e
      cases e
    · rw [h2, h3] at e
      cases e
    · exact h4)
  have tabB : ∀ p ∈ cs, TabB (hidT s.heap H) mg p.1 p.2 := fun p hp => by
    obtain ⟨m, o, m1, m2, m3, m4, m5, m6⟩ := mod
    have dm : m ≠ mainGlobals := fun z => by
      obtain ⟨o', es, ep, e, d, _⟩ := gn
      rw [z, e] at m3
      cases m3
      rw [d] at m6
      cases m6
    have dp : m ≠ p.2 := fun z => by
      rw [z, tE p hp] at m3
      cases m3
      cases m6
    obtain ⟨oc, vs, file, tf, fl, tg, inF, tx, tt, c1, c2, c3, c4, cr⟩ := tC p hp
    have cne : oc ≠ ob := fun z => by
      rw [z, ← hob] at c3
      cases c3
    have cnf : oc.data ≠ .fields #[] := fun z => by
      rw [c3] at z
      cases z
      simp at c4
    have mne : o ≠ ob := fun z => by
      rw [z, ← hob] at m6
      cases m6
    have mnf : o.data ≠ .fields #[] := fun z => by
      rw [m6] at z
      cases z
    refine ⟨⟨oc, vs, file, tf, fl, tg, inF, tx, tt, down c1 cne cnf, c2, c3, c4, cr⟩, ⟨m, o, m1, m2, dm, dp, down m3 mne mnf, m4, m5, m6⟩, fun z => ?_⟩
    obtain ⟨o', es, ep, e, d, _⟩ := gn
    rw [z, tE p hp] at e
    cases e
    cases d
  have sysB : ((hidT s.heap H).get? sysModules).isSome = true := by
    obtain ⟨o, es, n, h1, h2⟩ := sys
    have q := down h1 (fun z => by rw [z, ← hob] at h2; cases h2) (fun z => by rw [h2] at z; cases z)
    rw [q]
    rfl
  have e0 : Env0 P w K mg (hidT s.heap H) callerA [] s H :=
    ⟨rfl, ⟨kB, dict gn, ⟨mb, dict bn, bb⟩, let ⟨mc, l1, l2⟩ := nl; ⟨mc, dict l1, l2⟩⟩, fun b o e => of_hidT e, Nat.le_of_eq (hidT_size _ _), trivial, fun b z => absurd (show b ∈ ([] : List Addr) from z) (by simp), ok, .of_eq ng⟩
  have seq : SqL K H a (ns.map V.int) := by
    rcases tc a with ⟨h1, _⟩ | ⟨_, _, _, h4⟩ | ⟨_, h3, _⟩
    · exact (na h1).elim
    · exact .inl (.inr ⟨ob, h4⟩)
    · cases q : K.lookup a with
      | none => exact (h3 rfl q).elim
      | some o =>
        have z := kin a o q
        rw [ia] at z
        cases z
        rw [← hob] at q
        exact .inr ⟨_, us.toArray, _, q, rfl, rfl, rfl, by rw [List.size_toArray, ii.length]; exact il, by simpa using rv⟩
  have tabs : ∀ p ∈ cs, H p.2 = some (.tbl #[]) := fun p hp => by
    have hm : p.2 ∈ cs.map (·.2) := List.mem_map.mpr ⟨p, hp, rfl⟩
    rcases tc p.2 with ⟨_, h2⟩ | ⟨h1, _⟩ | ⟨h1, _⟩
    · exact h2
    · exact (h1 hm).elim
    · exact (h1 hm).elim
  refine codeAny_mono ((F _ kB (dict gn) tabB sysB).run callerA [] s H ⟨[.ref a], []⟩ [.ref a] [.ref a] _ _ rfl room e0 (hb s (.ref a)) (.cons rfl .nil) (hsp H tabs seq)) fun r t h => ?_
  cases r with
  | error e => exact (show False from h).elim
  | ok fl =>
    cases fl with
    | next => exact False.elim h
    | brk => exact False.elim h
    | cont => exact False.elim h
    | ret u =>
      obtain ⟨v, H', os, bare, un, ok', r', q⟩ := h
      have q' : v = .bl true := q
      subst q'
      obtain rfl : u = Value.bool true := r'
      have old : ∀ b o, b ∉ cs.map (·.2) → s.heap.get? b = some o → t.heap.get? b = some o := fun b o nb e => by
        rcases tc b with ⟨h1, _⟩ | ⟨_, h2, h3, h4⟩ | ⟨_, _, h4⟩
        · exact (nb h1).elim
        · have z := un.frzs b _ _ h4
          obtain ⟨e2, _⟩ := ok' b _ z
          rw [h2, ia] at e
          cases e
          exact e2
        · exact un.keep b o e h4 (fun z => absurd (show b ∈ ([] : List Addr) from z) (by simp)) (by simp)
      have more : ∀ p ∈ cs, ∃ m : Array Value, t.heap.get? p.2 = some { cls := .none, data := .fields m } := fun p hp => by
        obtain ⟨m, z⟩ := un.tbls p.2 #[] (tabs p hp)
        exact ⟨_, ok' p.2 _ z⟩
      refine ⟨rfl, ⟨fun b o e => ?_, fun b o e => ?_⟩, os, bare⟩
      · by_cases z : b ∈ cs.map (·.2)
        · obtain ⟨p, hp, rfl⟩ := List.mem_map.mp z
          obtain ⟨m, hm⟩ := more p hp
          rw [tE p hp] at e
          cases e
          exact .inr (.inl ⟨((tC p hp).tab (tE p hp)).isCodeTable, rfl, #[], m, rfl, by rw [Array.empty_append]; exact hm⟩)
        · exact .inl (old b o z e)
      · by_cases z : b ∈ cs.map (·.2)
        · obtain ⟨p, hp, rfl⟩ := List.mem_map.mp z
          obtain ⟨m, hm⟩ := more p hp
          exact ⟨_, hm⟩
        · exact ⟨o, old b o z e⟩
theorem walkG {l : PySem.W.OpenLaw} {n k : Nat} {q : Program} {loose : List Str} {XP : (Str → Option Value) → Heap → Prop} {YP : World → Heap → Prop} {d : DefRec} {x : Str}
    (hn : l.most = some n) (hn2 : n ≤ sizeLine) (hdf : d.params.defaults = []) (room : Room k callerA)
    (F : ∀ (w : World) (mg : Str → Option Value) (fa : Addr) (h : Heap), YP w h → h.Ns mainGlobals mg → mg d.name = some (.ref fa) →
      ∃ (K : PySem.W.Frag) (cs : List (Addr × Addr)) (fd : FuncData) (sp : Sp), K.In h ∧ (∀ p ∈ cs, h.get? p.2 = some { cls := .none, data := .fields #[] }) ∧ (∀ p ∈ cs, K.lookup p.2 = none) ∧ (∀ p ∈ cs, PySem.W.CodeHd h p.1 p.2) ∧ (∃ (o : Obj) (es : Array DictEntry) (n : Nat), h.get? sysModules = some o ∧ o.data = .dict es n) ∧
        (∀ (s : Shared) (u : Value), BindsTo s fd ⟨[u], []⟩ [(x, u)]) ∧
        (∀ (H : Hp) (a : Addr) (ns : List Int), ns.length ≤ n → (∀ z ∈ ns, Builtin.Int.intBits z ≤ 1048576) → (∀ p ∈ cs, H p.2 = some (.tbl #[])) → SqL K H a (ns.map V.int) → sp [.ref a] H (fun v _ => v = .bl true) fun _ _ _ => False) ∧
        ∀ base : Heap, K.In base → base.Ns mainGlobals mg → (∀ p ∈ cs, TabB base mg p.1 p.2) → (base.get? sysModules).isSome = true → FnG l.prog w K mg base CX0 k fa fd [x] sp) :
    PySem.W.WalkO q loose XP YP l.row.toRowW d [] (fun f vs => PySem.call f vs) := by
  refine Att.attach_callB hn hdf fun w s₀ s mg mb fa o pm cd doc a vs ns G Y ho hd hcd hmg hobj hints hlen hbits hg => ?_
  obtain ⟨K, cs, fd, sp, KX, h1, h2, h3, h4, hb, hsp, hF⟩ := F w mg fa _ Y G.T.g hmg
  exact end_call KX G.T.g G.T.b G.T.builtins G.T.nolimit hg h1 h2 h3 h4 G.T.bmain hobj hints (Nat.le_trans hlen hn2) room hF hb fun H => hsp H a ns hlen hbits
end EG

set_option maxHeartbeats 3900000
namespace CB
open PySem PySem.Spec PyProof.Rows L2
theorem same_mk {H : Hp} {p : Addr} {o : HO} (h : H p = none) : Same H (upd H p o) := fun a u e => by
  rw [upd_ne (ne_of_none e h)]
  exact e
theorem same_ch {H H' : Hp} {p : Addr} {o : HO} (a : Same H H') (h : H p = none) : Same H (upd H' p o) := fun c u e => by
  rw [upd_ne (ne_of_none e h)]
  exact a c u e
section
variable {J : It} {n : Nat} {G : Hp → Prop} {Y : Nat → Hp → V → Hp → Prop} {j : Nat} {te : TE} {σ : L2.St} {H1 : Hp} {D : Addr} {Qd : Hp → Prop}
theorem wipe1 (x : V) : wipe ((wipe σ [j]).set j (some x)) [j] = wipe σ [j] := by
  show ((σ.set j none).set j (some x)).set j none = σ.set j none
  simp
theorem lcW (w : Walk J n G Y) (ys : List V) (hn : ys.length = n) (hs : n < 1000000) (hD : H1 D = none) (hG : ∀ H', Same H1 H' → G H')
    (turn : ∀ (i : Nat) (x y : V) (H2 H3 : Hp), ys[i]? = some y → Same H1 H2 → Y i H2 x H3 → ∀ Q1 : VK, (∀ H4, Same H2 H4 → Q1 y H4) → te ((wipe σ [j]).set j (some x)) H3 Q1)
    (hd : ∀ H', Same H1 H' → H' D = some (.lst ys) → Qd H') :
    ∃ W : Nat → Nat → Hp → Prop, (∃ m, W 0 m (upd H1 D (.lst []))) ∧ ∀ i m H, W i m H →
      (J.stop i H ∧ Qd H) ∨ (J.go i H ∧ ∃ Nx : Hp → Prop, (∀ H', Nx H' → ∃ m', m' < m ∧ W (i + 1) m' H') ∧ ∀ x H', J.yld i H x H' → gName j x (wipe σ [j]) H' fun σ2 H2 => wipe σ2 [j] = wipe σ [j] ∧ tYes σ2 H2 fun b H3 =>
        if b = true then te σ2 H3 fun y H4 => ∃ acc, H4 D = some (.lst acc) ∧ acc.length < sizeLine ∧ Nx (upd H4 D (.lst (acc ++ [y]))) else Nx H3) := by
  subst hn
  refine lc_it w (fun i H' => Same H1 H' ∧ H' D = some (.lst (ys.take i))) ⟨same_mk hD, upd_same⟩ (fun i H' _ q => hG H' q.1) ?_ ?_
  · rintro i x H2 H3 hi ⟨s2, hd2⟩ y
    have hy : ys[i]? = some ys[i] := List.getElem?_eq_getElem hi
    refine ⟨wipe1 x, ?_⟩
    refine turn i x ys[i] H2 H3 hy s2 y _ fun H4 s4 => ⟨_, s4 _ _ hd2, ?_, same_ch (s2.trans s4) hD, ?_⟩
    · rw [List.length_take]
      exact Nat.lt_of_lt_of_le (show min i ys.length < 1000000 by omega) (by decide)
    · rw [upd_same, List.take_succ, hy]
      rfl
  · rintro H' ⟨s, h⟩
    rw [List.take_length] at h
    exact hd H' s h
end
section
variable {K : PySem.W.Frag} {α : Type} {j : Nat} {te : TE} {σ : L2.St} {H1 : Hp} {D a : Addr} {Qd : Hp → Prop}
theorem map_two {α : Type} {zs : List α} {u g : α → V} {i : Nat} {x y : V} (hx : (zs.map u)[i]? = some x) (hy : (zs.map g)[i]? = some y) : ∃ z ∈ zs, x = u z ∧ y = g z := by
  rw [List.getElem?_map] at hx hy
  match e : zs[i]? with
  | none =>
    rw [e] at hx
    cases hx
  | some z =>
    rw [e] at hx hy
    cases hx
    cases hy
    exact ⟨z, List.mem_of_getElem? e, rfl, rfl⟩
theorem lc_mapL (zs : List α) (u g : α → V) (hs : zs.length < 1000000) (hD : H1 D = none) (ha : SqL K H1 a (zs.map u))
    (turn : ∀ z ∈ zs, ∀ H2, Same H1 H2 → ∀ Q1 : VK, (∀ H4, Same H2 H4 → Q1 (g z) H4) → te ((wipe σ [j]).set j (some (u z))) H2 Q1) (hd : ∀ H', Same H1 H' → H' D = some (.lst (zs.map g)) → Qd H') :
    ∃ W : Nat → Nat → Hp → Prop, (∃ m, W 0 m (upd H1 D (.lst []))) ∧ ∀ i m H, W i m H →
      ((Itl K a).stop i H ∧ Qd H) ∨ ((Itl K a).go i H ∧ ∃ Nx : Hp → Prop, (∀ H', Nx H' → ∃ m', m' < m ∧ W (i + 1) m' H') ∧ ∀ x H', (Itl K a).yld i H x H' → gName j x (wipe σ [j]) H' fun σ2 H2 => wipe σ2 [j] = wipe σ [j] ∧ tYes σ2 H2 fun b H3 =>
        if b = true then te σ2 H3 fun y H4 => ∃ acc, H4 D = some (.lst acc) ∧ acc.length < sizeLine ∧ Nx (upd H4 D (.lst (acc ++ [y]))) else Nx H3) := by
  refine lcW (walk_list (K := K) (a := a) (xs := zs.map u)) (zs.map g) (by rw [List.length_map, List.length_map]) (by rw [List.length_map]; exact hs) hD (fun H' s => s.seq ha) ?_ hd
  rintro i x y H2 H3 hy s ⟨rfl, hx⟩ Q1 k
  obtain ⟨z, hz, rfl, rfl⟩ := map_two hx hy
  exact turn z hz _ s Q1 k
theorem sameT {H H' : Hp} {xs : List V} (e : Same H H') (h : SqT K H a xs) : SqT K H' a xs := by
  rcases h with (h | ⟨o, h⟩) | h
  · exact .inl (.inl (e _ _ h))
  · exact .inl (.inr ⟨o, e _ _ h⟩)
  · exact .inr h
theorem lc_mapT (zs : List α) (u g : α → V) (hs : zs.length < 1000000) (hD : H1 D = none) (ha : SqT K H1 a (zs.map u))
    (turn : ∀ z ∈ zs, ∀ H2, Same H1 H2 → ∀ Q1 : VK, (∀ H4, Same H2 H4 → Q1 (g z) H4) → te ((wipe σ [j]).set j (some (u z))) H2 Q1) (hd : ∀ H', Same H1 H' → H' D = some (.lst (zs.map g)) → Qd H') :
    ∃ W : Nat → Nat → Hp → Prop, (∃ m, W 0 m (upd H1 D (.lst []))) ∧ ∀ i m H, W i m H →
      ((Itt K a).stop i H ∧ Qd H) ∨ ((Itt K a).go i H ∧ ∃ Nx : Hp → Prop, (∀ H', Nx H' → ∃ m', m' < m ∧ W (i + 1) m' H') ∧ ∀ x H', (Itt K a).yld i H x H' → gName j x (wipe σ [j]) H' fun σ2 H2 => wipe σ2 [j] = wipe σ [j] ∧ tYes σ2 H2 fun b H3 =>
        if b = true then te σ2 H3 fun y H4 => ∃ acc, H4 D = some (.lst acc) ∧ acc.length < sizeLine ∧ Nx (upd H4 D (.lst (acc ++ [y]))) else Nx H3) := by
  refine lcW (walk_tup (K := K) (a := a) (xs := zs.map u)) (zs.map g) (by rw [List.length_map, List.length_map]) (by rw [List.length_map]; exact hs) hD (fun H' s => sameT s ha) ?_ hd
  rintro i x y H2 H3 hy s ⟨rfl, hx⟩ Q1 k
  obtain ⟨z, hz, rfl, rfl⟩ := map_two hx hy
  exact turn z hz _ s Q1 k
theorem lc_mapS (z : Str) (g : Nat → V) (hs : z.length < 1000000) (hD : H1 D = none)
    (turn : ∀ c ∈ z.cps.toList, ∀ H2, Same H1 H2 → ∀ Q1 : VK, (∀ H4, Same H2 H4 → Q1 (g c) H4) → te ((wipe σ [j]).set j (some (.str ⟨#[c]⟩))) H2 Q1) (hd : ∀ H', Same H1 H' → H' D = some (.lst (z.cps.toList.map g)) → Qd H') :
    ∃ W : Nat → Nat → Hp → Prop, (∃ m, W 0 m (upd H1 D (.lst []))) ∧ ∀ i m H, W i m H →
      ((Its z).stop i H ∧ Qd H) ∨ ((Its z).go i H ∧ ∃ Nx : Hp → Prop, (∀ H', Nx H' → ∃ m', m' < m ∧ W (i + 1) m' H') ∧ ∀ x H', (Its z).yld i H x H' → gName j x (wipe σ [j]) H' fun σ2 H2 => wipe σ2 [j] = wipe σ [j] ∧ tYes σ2 H2 fun b H3 =>
        if b = true then te σ2 H3 fun y H4 => ∃ acc, H4 D = some (.lst acc) ∧ acc.length < sizeLine ∧ Nx (upd H4 D (.lst (acc ++ [y]))) else Nx H3) := by
  refine lcW (walk_str (z := z)) (z.cps.toList.map g) (by rw [List.length_map, Array.length_toList]) hs hD (fun _ _ => trivial) ?_ hd
  rintro i x y H2 H3 hy s ⟨rfl, c, hc, rfl⟩ Q1 k
  rw [List.getElem?_map, Array.getElem?_toList, hc] at hy
  cases hy
  exact turn c (by rw [Array.mem_toList_iff]; exact Array.mem_of_getElem? hc) _ s Q1 k
theorem all_of {H : Hp} {Q : VK} (zs : List α) (f : α → Bool) (h : H D = some (.lst (zs.map fun z => .bl (f z)))) (q : Q (.bl (zs.all f)) H) : rAll K [.ref D] H Q :=
  ⟨D, zs.map f, rfl, SqL.of (by rw [h, List.map_map]; rfl), by rw [List.all_map]; exact q⟩
end
section
variable {X : Cx} {o e : Expr} {es : List Expr} {to : TE} {t : TA} {name : Str} {apos cpos : Pos} {T id : String} {r : V → List V → Hp → VK → Prop}
theorem pe_bmK (K0 : PySem.W.Frag) (hK : X.K = K0) (pa : PlainAttrs T) (slot : Slot T name id) (hty : typeOf (.builtin id) = pure (.type "method_descriptor")) (hm : MtR X id r) (ho : PE X o to) (ha : PA X (e :: es) t)
    (hb : attributeBase o name X.env (eval o X.env) = eval o X.env := by rfl)
    (hf : ((backTo cpos (starEach (e :: es) X.env)).all (fun x => !x.1) && (backToKw cpos (keywordEach [] X.env)).all (fun x => x.1.isSome) && decide ((e :: es).length + ([] : List Keyword).length + (if ([] : List Keyword).isEmpty then 0 else 1) < 30)) = true := by rfl)
    (hl : (apos.endLine == cpos.line) = true := by rfl) (hs : starEach (e :: es) X.env = (false, eval e X.env) :: starEach es X.env := by rfl) (hp : (backTo cpos (starEach es X.env)).any (·.1) = false := by rfl) :
    PE X (.Call (.Attribute o name apos) (e :: es) [] cpos) (tBM K0 T r to t) := by
  subst hK
  exact pe_bm pa slot hty hm ho ha hb hf hl hs hp
end
section
variable {X : Cx} {K0 : PySem.W.Frag}
theorem pg_tupK {es : List Expr} {k : Nat} {t : TGs} {n : Nat} {pos : Pos} (hK : X.K = K0) (hc : X.calm = true) (h : PGs X es t) (hn : (assignEach es X.env).length = n := by rfl) (hs : (assignEach es X.env).findIdx? (·.1) = none := by rfl) : PG X (.Tuple es k pos) (gTup K0 n t) := by
  subst hK
  exact pg_tup hc h hn hs
theorem ix_listK (hK : X.K = K0) : IxR X (rIxL K0) := by
  subst hK
  exact ix_list
theorem ix_tupK (hK : X.K = K0) : IxR X (rIxT K0) := by
  subst hK
  exact ix_tup
end
def RowAt (H : Hp) (v : V) (xs : List V) : Prop := ∃ a, v = .ref a ∧ (H a = some (.tup xs) ∨ H a = some (.lst xs))
theorem RowAt.up {H H' : Hp} {v : V} {xs : List V} (h : RowAt H v xs) (s : Same H H') : RowAt H' v xs := by
  obtain ⟨a, e, h | h⟩ := h
  · exact ⟨a, e, .inl (s _ _ h)⟩
  · exact ⟨a, e, .inr (s _ _ h)⟩
def rIxRow : R2 := fun x y H Q => ∃ xs i v, RowAt H x xs ∧ y = .int i ∧ atI xs i = some v ∧ Q v H
def rLenRow : List V → Hp → VK → Prop := fun vs H Q => ∃ x xs, vs = [x] ∧ RowAt H x xs ∧ Q (.int (xs.length : Int)) H
def LT (H : Hp) (v : V) (b : Bool) : Prop := (b = true ∧ ∃ xs, RowAt H v xs) ∨ (b = false ∧ (v = .non ∨ (∃ z, v = .str z) ∨ (∃ i, v = .int i) ∨ ∃ c, v = .bl c))
def rLT : List V → Hp → VK → Prop := fun vs H Q => ∃ v tp b, vs = [v, .ref tp] ∧ H tp = some (.tup [.ty "list", .ty "tuple"]) ∧ LT H v b ∧ Q (.bl b) H
def rTupRow : List V → Hp → VK → Prop := fun vs H Q => ∃ v xs, vs = [v] ∧ RowAt H v xs ∧ ∀ a H', Same H H' → H' a = some (.tup xs) → Q (.ref a) H'
section
variable {X : Cx}
theorem ix_row : IxR X rIxRow := by
  intro value slice pins s σ H x y v u Q I rx ry h hs
  obtain ⟨xs, i, w, ⟨a, rfl, h1 | h1⟩, rfl, ha, q⟩ := h
  · exact ix_tup (X := X) value slice pins s σ H _ _ v u Q I rx ry ⟨a, xs, i, w, rfl, rfl, SqT.of h1, ha, q⟩ hs
  · exact ix_list (X := X) value slice pins s σ H _ _ v u Q I rx ry ⟨a, xs, i, w, rfl, rfl, SqL.of h1, ha, q⟩ hs
theorem call_len_row : CallR X (.builtin "len") rLenRow := by
  intro pins s σ H xs us Q I r h
  obtain ⟨x, ys, rfl, ⟨a, rfl, h1 | h1⟩, q⟩ := h
  · exact call_len_seq (X := X) pins s σ H _ us Q I r ⟨a, ys, rfl, .inr (SqT.of h1), q⟩
  · exact call_len_seq (X := X) pins s σ H _ us Q I r ⟨a, ys, rfl, .inl (SqL.of h1), q⟩
theorem kitLT {K : PySem.W.Frag} {n : String} {b c : Bool} (h1 : kitB n "list" = some b) (h2 : kitB n "tuple" = some c) : PySem.W.kitAny K (.type n) [.type "list", .type "tuple"] = some (b || c) :=
  kitAny_cons (kit_ty h1) (fun e => by
    subst e
    exact kitAny_cons (kit_ty h2) (fun e2 => by
      subst e2
      exact kitAny_nil) (fun e2 => by
      subst e2
      rfl)) (fun e => by
    subst e
    rfl)
theorem isi_LT : CallR X (.builtin "isinstance") rLT := by
  intro pins s σ H xs us Q I r h
  obtain ⟨v, tp, b, rfl, ht, hl, q⟩ := h
  have go : ∀ (n : String) (c : Bool), TyX X.K H v (.type n) → PySem.W.kitAny X.K (.type n) [.type "list", .type "tuple"] = some c → Q (.bl c) H → wpAny (model X.prog X.w) X.A (call (.builtin "isinstance") us) (EP X pins σ Q) X.xe s := fun n c t k q =>
    call_isiT (X := X) pins s σ H _ us Q I r ⟨v, tp, _, .type n, [.type "list", .type "tuple"], c, rfl, ht, .cons (.ty "list") (.cons (.ty "tuple") .nil), t, k, q⟩
  rcases hl with ⟨rfl, ys, a, rfl, h1 | h1⟩ | ⟨rfl, rfl | ⟨z, rfl⟩ | ⟨i, rfl⟩ | ⟨c, rfl⟩⟩
  · exact go "tuple" true (.base (.tup h1)) (kitLT (b := false) (c := true) (by decide +kernel) (by decide +kernel)) q
  · exact go "list" true (.base (.lst h1)) (kitLT (b := true) (c := false) (by decide +kernel) (by decide +kernel)) q
  · exact go "NoneType" false (.base .non) (kitLT (b := false) (c := false) (by decide +kernel) (by decide +kernel)) q
  · exact go "str" false (.base (.str z)) (kitLT (b := false) (c := false) (by decide +kernel) (by decide +kernel)) q
  · exact go "int" false (.base (.int i)) (kitLT (b := false) (c := false) (by decide +kernel) (by decide +kernel)) q
  · exact go "bool" false (.base (.bl c)) (kitLT (b := false) (c := false) (by decide +kernel) (by decide +kernel)) q
theorem call_tup_row : CallR X (.type "tuple") rTupRow := by
  intro pins s σ H xs us Q I r h
  obtain ⟨v, ys, rfl, ⟨a, rfl, h1 | h1⟩, q⟩ := h
  · exact call_tuple_of (X := X) pins s σ H _ us Q I r ⟨a, ys, rfl, .inr ⟨SqT.of h1, q a H (Same.refl H) h1⟩⟩
  · exact call_tuple_of (X := X) pins s σ H _ us Q I r ⟨a, ys, rfl, .inl ⟨SqL.of h1, fun l hl => q l _ (same_mk hl) upd_same⟩⟩
def iSeqV (K : PySem.W.Frag) (i : Nat) : TI := fun σ H R => ∃ a, σ[i]? = some (some (.ref a)) ∧ ((∃ xs, SqT K H a xs ∧ R (Itt K a) H) ∨ ∃ xs, SqL K H a xs ∧ R (Itl K a) H)
theorem pi_seqv {tg l : Expr} {i : Nat} (hl : PE X l (tVar i)) : PI X tg l (iSeqV X.K i) := by
  refine ⟨fun pins s σ H R I h => ?_⟩
  obtain ⟨a, ha, ⟨xs, q, r⟩ | ⟨xs, q, r⟩⟩ := h
  · exact (pi_tup hl).run pins s σ H R I ⟨_, ha, a, rfl, ⟨xs, q⟩, r⟩
  · exact (pi_list hl).run pins s σ H R I ⟨_, ha, a, rfl, ⟨xs, q⟩, r⟩
end
section
variable {K : PySem.W.Frag} {α : Type} {i j : Nat} {te : TE} {σ : L2.St} {H : Hp} {v : V} {Q : VK}
theorem lc_row (zs : List α) (u g : α → V) (hi : σ[i]? = some (some v)) (h : RowAt H v (zs.map u)) (hs : zs.length < 1000000)
    (turn : ∀ z ∈ zs, ∀ H2, Same H H2 → ∀ Q1 : VK, (∀ H4, Same H2 H4 → Q1 (g z) H4) → te ((wipe σ [j]).set j (some (u z))) H2 Q1) (hd : ∀ D H', Same H H' → H D = none → H' D = some (.lst (zs.map g)) → Q (.ref D) H') :
    tLc (iSeqV K i) (gName j) tYes te [j] σ H Q := by
  obtain ⟨a, rfl, h1 | h1⟩ := h
  · exact ⟨a, hi, .inl ⟨_, SqT.of h1, fun D hD => lc_mapT zs u g hs hD (SqT.of h1) turn fun H' s h2 => hd D H' s hD h2⟩⟩
  · exact ⟨a, hi, .inr ⟨_, SqL.of h1, fun D hD => lc_mapL zs u g hs hD (SqL.of h1) turn fun H' s h2 => hd D H' s hD h2⟩⟩
theorem all_row (zs : List α) (u : α → V) (f : α → Bool) (hi : σ[i]? = some (some v)) (h : RowAt H v (zs.map u)) (hs : zs.length < 1000000)
    (turn : ∀ z ∈ zs, ∀ H2, Same H H2 → ∀ Q1 : VK, (∀ H4, Same H2 H4 → Q1 (.bl (f z)) H4) → te ((wipe σ [j]).set j (some (u z))) H2 Q1) (hd : ∀ H', Same H H' → Q (.bl (zs.all f)) H') :
    tCB (rAll K) (tCons (tLc (iSeqV K i) (gName j) tYes te [j]) tNil) σ H Q := by
  show tLc (iSeqV K i) (gName j) tYes te [j] σ H fun v H1 => rAll K [v] H1 Q
  exact lc_row zs u (fun z => .bl (f z)) hi h hs turn fun D H' s _ hD => all_of zs f hD (hd H' s)
theorem set_row {y : Nat} {D0 : Ends} (zs : List α) (u g : α → V) (hi : σ[i]? = some (some v)) (h : RowAt H v (zs.map u)) (hs : zs.length < 1000000)
    (turn : ∀ z ∈ zs, ∀ H2, Same H H2 → ∀ Q1 : VK, (∀ H4, Same H2 H4 → Q1 (g z) H4) → te ((wipe σ [j]).set j (some (u z))) H2 Q1) (hd : ∀ D H', Same H H' → H D = none → H' D = some (.lst (zs.map g)) → D0.nx (σ.set y (some (.ref D))) H') :
    tAsg (tLc (iSeqV K i) (gName j) tYes te [j]) (gName y) D0 σ H := by
  show tLc (iSeqV K i) (gName j) tYes te [j] σ H fun x H1 => D0.nx (σ.set y (some x)) H1
  exact lc_row zs u g hi h hs turn hd
theorem iteY {c A B : Prop} [Decidable c] (h : c) (a : A) : if decide c = true then A else B := by
  rw [if_pos (decide_eq_true h)]
  exact a
theorem iteN {c A B : Prop} [Decidable c] (h : ¬ c) (b : B) : if decide c = true then A else B := by
  rw [if_neg (by rw [decide_eq_false h]; exact Bool.false_ne_true)]
  exact b
theorem cut_1 (xs : List V) : cutV xs (some 1) none = xs.drop 1 := by
  show (xs.drop (HT.sIx xs.length 0 (some ((1 : Nat) : Int)))).take (HT.sIx xs.length xs.length none - HT.sIx xs.length 0 (some ((1 : Nat) : Int))) = xs.drop 1
  rw [HT.sIx_nat, HT.sIx_none]
  by_cases h : 1 ≤ xs.length
  · rw [Nat.min_eq_left h, List.take_of_length_le (by rw [List.length_drop]; exact Nat.le_refl _)]
  · rw [List.drop_eq_nil_of_le (by omega), List.drop_eq_nil_of_le (by omega)]
    exact List.take_nil
end
section
variable {J : It} {n : Nat} {G : Hp → Prop} {fx fy : Nat → Option V} {i j : Nat} {te : TE} {σ : L2.St} {H1 : Hp} {D : Addr} {Qd : Hp → Prop} {K : PySem.W.Frag}
theorem wipe2 (hij : i ≠ j) (x y : V) : wipe (((wipe σ [i, j]).set i (some x)).set j (some y)) [i, j] = wipe σ [i, j] := by
  show (((((σ.set j none).set i none).set i (some x)).set j (some y)).set j none).set i none = (σ.set j none).set i none
  rw [List.set_set, List.set_set, List.set_comm _ _ hij, List.set_set, List.set_set]
theorem lcW2 (w : Walk J n G (YPair fx fy)) (hij : i ≠ j) (ys : List V) (hn : ys.length = n) (hs : n < 1000000) (hD : H1 D = none) (hG : ∀ H', Same H1 H' → G H')
    (turn : ∀ (m : Nat) (x x' y : V) (H2 : Hp), ys[m]? = some y → fx m = some x → fy m = some x' → Same H1 H2 → ∀ Q1 : VK, (∀ H4, Same H2 H4 → Q1 y H4) → te (((wipe σ [i, j]).set i (some x)).set j (some x')) H2 Q1)
    (hd : ∀ H', Same H1 H' → H' D = some (.lst ys) → Qd H') :
    ∃ W : Nat → Nat → Hp → Prop, (∃ m, W 0 m (upd H1 D (.lst []))) ∧ ∀ k m H, W k m H →
      (J.stop k H ∧ Qd H) ∨ (J.go k H ∧ ∃ Nx : Hp → Prop, (∀ H', Nx H' → ∃ m', m' < m ∧ W (k + 1) m' H') ∧ ∀ x H', J.yld k H x H' → gTup K 2 (gCons (gName i) (gCons (gName j) gNil)) x (wipe σ [i, j]) H' fun σ2 H2 => wipe σ2 [i, j] = wipe σ [i, j] ∧ tYes σ2 H2 fun b H3 =>
        if b = true then te σ2 H3 fun y H4 => ∃ acc, H4 D = some (.lst acc) ∧ acc.length < sizeLine ∧ Nx (upd H4 D (.lst (acc ++ [y]))) else Nx H3) := by
  subst hn
  refine lc_it w (fun i H' => Same H1 H' ∧ H' D = some (.lst (ys.take i))) ⟨same_mk hD, upd_same⟩ (fun i H' _ q => hG H' q.1) ?_ ?_
  · rintro m x H2 H3 hi ⟨s2, hd2⟩ ⟨T, x1, x2, rfl, hT, rfl, e1, e2⟩
    have hy : ys[m]? = some ys[m] := List.getElem?_eq_getElem hi
    refine ⟨T, _, rfl, SqT.of upd_same, rfl, x1, _, rfl, x2, _, rfl, rfl, wipe2 hij x1 x2, ?_⟩
    have s3 : Same H2 (upd H2 T (.tup [x1, x2])) := same_mk hT
    refine turn m x1 x2 ys[m] _ hy e1 e2 (s2.trans s3) _ fun H4 s4 => ⟨_, s4 _ _ (s3 _ _ hd2), ?_, same_ch ((s2.trans s3).trans s4) hD, ?_⟩
    · rw [List.length_take]
      exact Nat.lt_of_lt_of_le (show min m ys.length < 1000000 by omega) (by decide)
    · rw [upd_same, List.take_succ, hy]
      rfl
  · rintro H' ⟨s, h⟩
    rw [List.take_length] at h
    exact hd H' s h
end
section
variable {J : It} {n : Nat} {G : Hp → Prop} {Y : Nat → Hp → V → Hp → Prop} {j : Nat} {te : TE} {σ : L2.St} {H1 : Hp} {D : Addr} {Qd : Hp → Prop}
def TupS (H H' : Hp) : Prop := ∀ b xs, H b = some (.tup xs) → H' b = some (.tup xs)
theorem TupS.of {H H' : Hp} (s : Same H H') : TupS H H' := fun b xs h => s b _ h
end
section
variable {K : PySem.W.Frag} {i j : Nat} {te : TE} {σ : L2.St} {H : Hp} {v : V} {Q : VK}
end
end CB

set_option maxHeartbeats 3900000
namespace XW
open PySem PySem.Spec PyProof.Rows L2
open CB
def EWant (H : Hp) (fl : Str) (C : Addr) (x : V) (E : XK) : Prop := ∀ d H', Same H H' → H d = none → H' d = some (.xd [(fl, x)]) → E (.ref C) (some d) H'
theorem EWant.up {H H' : Hp} {fl : Str} {C : Addr} {x : V} {E : XK} (h : EWant H fl C x E) (s : Same H H') : EWant H' fl C x E := fun d H2 s2 hd he => h d H2 (s.trans s2) (s.free hd) he
inductive NoText (H : Hp) : V → Prop
  | non : NoText H .non
  | int (i : Int) : NoText H (.int i)
  | bl (b : Bool) : NoText H (.bl b)
  | lst {a : Addr} {xs : List V} (h : H a = some (.lst xs)) : NoText H (.ref a)
  | tup {a : Addr} {xs : List V} (h : H a = some (.tup xs)) : NoText H (.ref a)
  | dct {a : Addr} {kvs : List (L2.Key × V)} (h : H a = some (.dK kvs)) : NoText H (.ref a)
theorem NoText.up {H H' : Hp} {x : V} (h : NoText H x) (s : Same H H') : NoText H' x := by
  cases h with
  | non => exact .non
  | int i => exact .int i
  | bl b => exact .bl b
  | lst h => exact .lst (s _ _ h)
  | tup h => exact .tup (s _ _ h)
  | dct h => exact .dct (s _ _ h)
end XW

set_option maxHeartbeats 3900000
namespace XW
open PySem PySem.Spec PyProof.Rows L2 TL
open CB
def EWant2 (H : Hp) (f1 f2 : Str) (C : Addr) (x y : V) (E : XK) : Prop := ∀ d H', Same H H' → H d = none → H' d = some (.xd [(f2, y), (f1, x)]) → E (.ref C) (some d) H'
theorem EWant2.up {H H' : Hp} {f1 f2 : Str} {C : Addr} {x y : V} {E : XK} (h : EWant2 H f1 f2 C x y E) (s : Same H H') : EWant2 H' f1 f2 C x y E := fun d H2 s2 hd he => h d H2 (s.trans s2) (s.free hd) he
end XW

set_option maxHeartbeats 0
namespace HB
open PySem PySem.Spec PyProof.Rows L2 EG RP
def eqV (a b : Option (Option Value)) : Bool := decide (a = b)
def clsB (K : PySem.W.Frag) (C : Addr) : Bool :=
  eqV (PySem.W.findIn K (.ref C) "__class__") (some (some (.builtin "object.__class__"))) && (decide (PySem.W.specialIn K (.builtin "object.__class__") "__get__" = some (some (.builtin "getset_descriptor.__get__"))) &&
  (decide (PySem.W.takesIn K (.builtin "object.__class__") = some true) && (decide (PySem.W.mroIn K C (.type "object") = some true) && (eqV (PySem.W.findIn K (.ref C) "__ne__") (some (some (.builtin "object.__ne__"))) &&
  (decide (PySem.W.subIn K (.ref C) (.type "object") = some true) && decide (PySem.W.kitOne K (.ref C) (.ref C) = some true))))))
structure ClsF (K : PySem.W.Frag) (C : Addr) : Prop where
  ha : PySem.W.findIn K (.ref C) "__class__" = some (some (.builtin "object.__class__"))
  hn : PySem.W.specialIn K (.builtin "object.__class__") "__get__" = some (some (.builtin "getset_descriptor.__get__"))
  ht : PySem.W.takesIn K (.builtin "object.__class__") = some true
  hm : PySem.W.mroIn K C (.type "object") = some true
  ne : PySem.W.findIn K (.ref C) "__ne__" = some (some (.builtin "object.__ne__"))
  so : PySem.W.subIn K (.ref C) (.type "object") = some true
  kC : PySem.W.kitOne K (.ref C) (.ref C) = some true
theorem clsB_ok {K : PySem.W.Frag} {C : Addr} (h : clsB K C = true) : ClsF K C := by
  obtain ⟨h1, h⟩ := He.ba h
  obtain ⟨h2, h⟩ := He.ba h
  obtain ⟨h3, h⟩ := He.ba h
  obtain ⟨h4, h⟩ := He.ba h
  obtain ⟨h5, h⟩ := He.ba h
  obtain ⟨h6, h7⟩ := He.ba h
  exact ⟨of_decide_eq_true h1, of_decide_eq_true h2, of_decide_eq_true h3, of_decide_eq_true h4, of_decide_eq_true h5, of_decide_eq_true h6, of_decide_eq_true h7⟩
def tyL : List String := ["NoneType", "int", "bool", "str", "list", "tuple"]
def firB (K : PySem.W.Frag) (C : Addr) : Bool := PySem.W.selfFirst K C && ((tyL.all fun t => decide (PySem.W.kitOne K (.type t) (.ref C) = some false) && PySem.W.notFirst K C (.type t)) && PySem.W.notFirst K C (.ref C))
structure FirF (K : PySem.W.Frag) (C : Addr) : Prop where
  sf : PySem.W.selfFirst K C = true
  kT : ∀ t ∈ (["NoneType", "int", "bool", "str", "list", "tuple"] : List String), PySem.W.kitOne K (.type t) (.ref C) = some false ∧ PySem.W.notFirst K C (.type t) = true
  nC : PySem.W.notFirst K C (.ref C) = true
theorem firB_ok {K : PySem.W.Frag} {C : Addr} (h : firB K C = true) : FirF K C := by
  obtain ⟨h1, h⟩ := He.ba h
  obtain ⟨h2, h3⟩ := He.ba h
  exact ⟨h1, fun t ht => by
    obtain ⟨a, b⟩ := He.ba (List.all_eq_true.mp h2 t ht)
    exact ⟨of_decide_eq_true a, b⟩, h3⟩
end HB

set_option maxHeartbeats 0
namespace HF
open PySem PySem.Spec PyProof.Rows L2
def under (g : Addr → Option Obj) (as : List Addr) : List Addr := as.flatMap fun a => match g a with
  | none => []
  | some o => He.refsD o
def fresh (old : List Addr) : List Addr → List Addr → List Addr
  | acc, [] => acc
  | acc, a :: r => if acc.any (Nat.beq a) || old.any (Nat.beq a) then fresh old acc r else fresh old (a :: acc) r
def levels (g : Addr → Option Obj) : Nat → List Addr → List Addr → List Addr
  | 0, old, top => old ++ top
  | n + 1, old, top => levels g n (old ++ top) (fresh (old ++ top) [] (under g top))
def reach (n : Nat) (g : Addr → Option Obj) : List Addr := levels g n [] [mainGlobals]
abbrev frag (n : Nat) (g : Addr → Option Obj) : PySem.W.Frag := He.frT g (reach n g)
def look (n : Nat) (fa : List He.Fa) (fn : List He.DefD) (tf : List He.Defn) (ex : PySem.W.Frag → Bool) (g : Addr → Option Obj) : He.AlX := (He.obsT fa fn [] (frag n g), ex (frag n g) && He.tabsB g tf (frag n g))
theorem look_says {n : Nat} {fa : List He.Fa} {fn : List He.DefD} {tf : List He.Defn} {ex : PySem.W.Frag → Bool} {w : World} {h : Heap} (e : look n fa fn tf ex h.get? = He.valX fn [] w) : He.SaysX fa fn [] tf ex w h (frag n h.get?) := by
  unfold look at e
  generalize hK : frag n h.get? = K at e ⊢
  have e1 : He.obsT fa fn [] K = He.valT fn [] w := congrArg Prod.fst e
  have e2 : (ex K && He.tabsB h.get? tf K) = true := congrArg Prod.snd e
  obtain ⟨x1, x2⟩ := He.ba e2
  have tab : ∀ p ∈ tf, PySem.W.codeHdIn K (He.cT K p).1 (He.cT K p).2 = true ∧ ∃ o, h.get? (He.cT K p).2 = some o ∧ He.emptyTab o = true := fun p hp => by
    obtain ⟨a, b⟩ := He.ba (List.all_eq_true.mp x2 p hp)
    refine ⟨a, ?_⟩
    cases q : h.get? (He.cT K p).2 with
    | some o =>
      rw [q] at b
      exact ⟨o, rfl, b⟩
    | none =>
      rw [q] at b
      cases b
  refine ⟨e1, x1, fun p hp => (tab p hp).1, fun p hp => ?_, fun p hp => ?_⟩
  · obtain ⟨_, o, q, z⟩ := tab p hp
    rw [← hK] at q ⊢
    exact He.frT_none q z
  · obtain ⟨_, o, q, z⟩ := tab p hp
    rw [q, He.emptyTab_eq z]
end HF

namespace HJ
open PySem PySem.W PySem.Calls PyProof.Rows HandSHeadRun
theorem join {S B : Type} {x : Option S} {f : S → Bool} {g : S → B} {b : B} {G : S → Addr → Option Obj} {D : S → Bool} {n k : Nat} {fa fb : List He.Fa} {fn : List He.DefD} {tf : List He.Defn} {ex : PySem.W.Frag → Bool} {w : World}
    (h1 : x.map (fun s => (f s, g s, D s, fa.all fun f => f.ok (HF.frag n (G s)))) = some (true, b, true, true))
    (h2 : x.map (fun s => fb.all fun f => f.ok (HF.frag n (G s))) = some true)
    (h3 : x.map (fun s => (fn.take k).all fun d => d.ok (HF.frag n (G s))) = some true)
    (h3' : x.map (fun s => (fn.drop k).all fun d => d.ok (HF.frag n (G s))) = some true)
    (h4 : x.map (fun s => fn.map fun d => He.fnW (HF.frag n (G s)) d.at_) = some (fn.map He.DefD.val))
    (h5 : x.map (fun s => ex (HF.frag n (G s)) && He.tabsB (G s) tf (HF.frag n (G s))) = some true) :
    x.map (fun s => (f s, g s, (HF.look n (fa ++ fb) fn tf ex (G s), D s))) = some (true, b, (He.valX fn [] w, true)) := by
  cases x with
  | none => cases h1
  | some s =>
    have e1 := Option.some.inj h1
    have e2 := Option.some.inj h2
    have e3 := Option.some.inj h3
    have e3' := Option.some.inj h3'
    have e4 := Option.some.inj h4
    have e5 := Option.some.inj h5
    have ef : (fn.all fun d => d.ok (HF.frag n (G s))) = true := by
      rw [← List.take_append_drop k fn, List.all_append]
      simp only [e3, e3', Bool.and_self]
    simp only [Prod.mk.injEq] at e1
    obtain ⟨q1, q2, q3, q4⟩ := e1
    show some (f s, g s, (HF.look n (fa ++ fb) fn tf ex (G s), D s)) = _
    unfold HF.look He.obsT He.obsD He.valX He.valT He.valD
    rw [List.all_append]
    simp only [q1, q2, q3, q4, e2, ef, e4, e5, Bool.and_self]
    rfl
def isD (o : Option Obj) : Bool := match o with
  | some ⟨_, _, .dict _ _, _⟩ => true
  | _ => false
def hk (n : Nat) (fa : List He.Fa) (fn : List He.DefD) (tf : List He.Defn) (ex : PySem.W.Frag → Bool) : PySem.W.Hook where
  α := He.AlX × Bool
  obs := fun s => (HF.look n fa fn tf ex s.heap.get?, isD (s.heap.get? sysModules))
  val := fun w => (He.valX fn [] w, true)
  says := fun w h => (∃ K : PySem.W.Frag, K.In h ∧ He.SaysX fa fn [] tf ex w h K) ∧ ∃ (o : Obj) (es : Array DictEntry) (n : Nat), h.get? sysModules = some o ∧ o.data = .dict es n
  of := fun w s e => by
    refine ⟨⟨_, He.frT_in, HF.look_says (congrArg (fun z : He.AlX × Bool => z.1) e)⟩, ?_⟩
    have e2 : isD (s.heap.get? sysModules) = true := congrArg (fun z : He.AlX × Bool => z.2) e
    unfold isD at e2
    split at e2
    · rename_i c d es n sl ho
      exact ⟨_, es, n, ho, rfl⟩
    · cases e2
  keeps := fun w h h' ⟨a, o, es, n, h1, h2⟩ k => ⟨(He.hookX 5 fa fn [] tf ex).keeps w h h' a k, o, es, n, k _ _ h1, h2⟩
def ob (n : Nat) (fa : List He.Fa) (fn : List He.DefD) (tf : List He.Defn) (ex : PySem.W.Frag → Bool) (s : PySem.W.SharedT) : (hk n fa fn tf ex).α := (HF.look n fa fn tf ex (HandSHeadRun.getT s), isD (HandSHeadRun.getT s sysModules))
theorem ob_eq (n : Nat) (fa : List He.Fa) (fn : List He.DefD) (tf : List He.Defn) (ex : PySem.W.Frag → Bool) (s : PySem.W.SharedT) : ob n fa fn tf ex s = (hk n fa fn tf ex).obs s.abs := by
  have e : HandSHeadRun.getT s = s.abs.heap.get? := funext (HandSHeadRun.getT_eq s)
  show (HF.look n fa fn tf ex (HandSHeadRun.getT s), isD (HandSHeadRun.getT s sysModules)) = _
  rw [e]
  rfl
noncomputable abbrev E (r : OpenRow) (M : Nat) (w : World) (os : OsState) : Option SharedT := endF (stepQ (denQ tabQ) r.prog w) M r.prog w os
abbrev P1 (n : Nat) (r : OpenRow) (q : Program) (M : Nat) (loose : List PySem.Str) (fa : List He.Fa) (w : World) : Prop := ∀ os : OsState, (E r M w os).map (fun s => (looksF r.prog (boot_heap w.params) s.abs, seenQ q loose (importedModules r.prog.main.body) (fun s => xlAt q [] s && recOk r.toRowW.records s) s.abs, isD (getT s sysModules), fa.all fun f => f.ok (HF.frag n (getT s)))) = some (true, openGood q loose, true, true)
abbrev P2 (n : Nat) (r : OpenRow) (M : Nat) (fa : List He.Fa) (w : World) : Prop := ∀ os : OsState, (E r M w os).map (fun s => fa.all fun f => f.ok (HF.frag n (getT s))) = some true
abbrev P3 (n : Nat) (r : OpenRow) (M : Nat) (fn : List He.DefD) (w : World) : Prop := ∀ os : OsState, (E r M w os).map (fun s => fn.all fun d => d.ok (HF.frag n (getT s))) = some true
abbrev P4 (n : Nat) (r : OpenRow) (M : Nat) (fn : List He.DefD) (w : World) : Prop := ∀ os : OsState, (E r M w os).map (fun s => fn.map fun d => He.fnW (HF.frag n (getT s)) d.at_) = some (fn.map He.DefD.val)
abbrev P5 (n : Nat) (r : OpenRow) (M : Nat) (tf : List He.Defn) (ex : PySem.W.Frag → Bool) (w : World) : Prop := ∀ os : OsState, (E r M w os).map (fun s => ex (HF.frag n (getT s)) && He.tabsB (getT s) tf (HF.frag n (getT s))) = some true
theorem run {r : OpenRow} {q : Program} {n M k : Nat} {loose : List PySem.Str} {fa fb : List He.Fa} {fn : List He.DefD} {tf : List He.Defn} {ex : PySem.W.Frag → Bool} {w : World}
    (h1 : P1 n r q M loose fa w) (h2 : P2 n r M fb w) (h3 : P3 n r M (fn.take k) w) (h4 : P3 n r M (fn.drop k) w) (h5 : P4 n r M fn w) (h6 : P5 n r M tf ex w) : RunEq r q (hk n (fa ++ fb) fn tf ex) (ob n (fa ++ fb) fn tf ex) M loose w := by
  intro os
  have a1 := h1 os
  have a2 := h2 os
  have a3 := h3 os
  have a4 := h4 os
  have a5 := h5 os
  have a6 := h6 os
  exact join (G := getT) (D := fun s => isD (getT s sysModules)) a1 a2 a3 a4 a5 a6
end HJ

set_option maxHeartbeats 0
namespace T5
open PySem PySem.Spec PyProof.Rows L2 EG RP
def exB (K : PySem.W.Frag) : Bool := HB.clsB K (He.ga K "Step") && (HB.firB K (He.ga K "Step") && (((["NoneType", "int", "str", "tuple"] : List String).all fun t => PySem.W.subIn K (.ref (He.ga K "Step")) (.type t) == some false)))
def dG (x : Str) (i : Nat) : He.DefD := ⟨(x, none), x, x, defArgs (top i), defBody (top i), defScope (top i), [], []⟩
def dI (x m q : Str) (i j : Nat) (ds : List He.Dv) : He.DefD := ⟨(x, some m), m, q, defArgs (inClass (top i) j), defBody (inClass (top i) j), defScope (inClass (top i) j), ds, []⟩
def fnL : List He.DefD := ([dG "is_name" 9, dG "is_path" 10, dG "is_place" 11, dG "is_row" 13, dG "as_look" 14, dG "can_look" 15, dG "can_show" 16, dG "is_listing" 17, dG "is_entry" 18, dG "as_sight" 19, dG "plain_tree" 21, dG "is_end" 22] : List He.DefD) ++ ([dG "look_of_ask" 23, dG "unordered" 24, dG "looks_in" 25, dG "parts_of" 26, dG "_law_draw" 30, dG "_law_pick" 31, dG "_law_mixed" 32, dG "_law_same" 33, dG "_law_fresh" 34, dG "_law_pool" 35, dG "_law_path" 36, dG "_law_text" 37] : List He.DefD) ++ ([dG "_law_look" 38, dG "_law_looks" 39, dG "_law_some_answer" 40, dG "_law_tree" 41, dG "_law_list" 42, dG "_law_looks_of" 43, dG "_law_turned" 44, dG "_law_unlike" 45, dG "_law_unlikes" 46, dG "law" 47, dI "Step" "__init__" "Step.__init__" 28 0 [], dI "Step" "tree" "Step.tree" 28 1 []] : List He.DefD) ++ ([dI "Step" "looks" "Step.looks" 28 2 [], dI "Step" "__eq__" "Step.__eq__" 28 4 []] : List He.DefD)
def gloL : List Str := (["is_name", "is_path", "is_place", "is_row", "as_look", "can_look", "can_show", "is_listing", "is_entry", "as_sight", "plain_tree", "is_end"] : List PySem.Str) ++ (["look_of_ask", "unordered", "looks_in", "parts_of", "_law_draw", "_law_pick", "_law_mixed", "_law_same", "_law_fresh", "_law_pool", "_law_path", "_law_text"] : List PySem.Str) ++ (["_law_look", "_law_looks", "_law_some_answer", "_law_tree", "_law_list", "_law_looks_of", "_law_turned", "_law_unlike", "_law_unlikes", "law", "Step"] : List PySem.Str)
def freeL : List Str := (["int", "len", "range", "list", "tuple", "any", "all", "sorted", "isinstance", "enumerate", "zip", "str"] : List Str) ++ (["repr", "min", "max", "dict", "set", "iter"] : List Str)
def conL : List He.Fa := ([.str "STROKE" "/", .str "ROOT" "", .str "LETTERS" "abcdefghijklmnopqrstuvwxyz", .int "LONGEST" 8, .meth "Step" "looks", .meth "Step" "__eq__", .meth "Step" "tree", .cls "Step", .noat "Step" "top", .noat "Step" "choices", .mkr "Step"] : List He.Fa)
def faL : List He.Fa := (gloL.map fun x => He.Fa.glo x) ++ ((freeL.map fun x => He.Fa.free x) ++ conL)
def tfL : List He.Defn := []
abbrev hkL : PySem.W.Hook := HJ.hk 4 faL fnL tfL exB
abbrev RL : PySem.W.OpenRow := PySem.W.OpenLaw.row PySem.Challenge.rw_trueagain_k12_steps_made
abbrev obL : PySem.W.SharedT → hkL.α := HJ.ob 4 faL fnL tfL exB
theorem obL_eq (s : PySem.W.SharedT) : obL s = hkL.obs s.abs := HJ.ob_eq 4 faL fnL tfL exB s
def looseL : List PySem.Str := (["_wall", "AgainError", "BadStep", "is_name", "is_path", "is_place", "is_row", "as_look", "can_look", "can_show", "is_listing", "is_entry"] : List PySem.Str) ++ (["as_sight", "plain_tree", "is_end", "look_of_ask", "unordered", "looks_in", "parts_of", "Step", "_law_draw", "_law_pick", "_law_mixed", "_law_same"] : List PySem.Str) ++ (["_law_fresh", "_law_pool", "_law_path", "_law_text", "_law_look", "_law_looks", "_law_some_answer", "_law_tree", "_law_list", "_law_looks_of", "_law_turned", "_law_unlike"] : List PySem.Str) ++ (["_law_unlikes", "LETTERS", "LONGEST", "STROKE", "ROOT"] : List PySem.Str)
theorem run1 (w : World) : HJ.P1 4 RL (PySem.W.view RL.prog [47]) 20000 looseL (gloL.map fun x => He.Fa.glo x) w := by
  intro os
  kernel_rfl
theorem run2 (w : World) : HJ.P2 4 RL 20000 ((freeL.map fun x => He.Fa.free x) ++ conL) w := by
  intro os
  kernel_rfl
theorem run3 (w : World) : HJ.P3 4 RL 20000 (fnL.take 19) w := by
  intro os
  kernel_rfl
theorem run4 (w : World) : HJ.P3 4 RL 20000 (fnL.drop 19) w := by
  intro os
  kernel_rfl
theorem run5 (w : World) : HJ.P4 4 RL 20000 fnL w := by
  intro os
  kernel_rfl
theorem run6 (w : World) : HJ.P5 4 RL 20000 tfL exB w := by
  intro os
  kernel_rfl
theorem runL (w : World) : HandSHeadRun.RunEq RL (PySem.W.view RL.prog [47]) hkL obL 20000 looseL w :=
  HJ.run (run1 w) (run2 w) (run3 w) (run4 w) (run5 w) (run6 w)
end T5

set_option maxHeartbeats 3900000
namespace T5
open PySem PySem.Spec PyProof.Rows L2 TL
open C8 (pss_cut tCut pe_gc)
def IsNm (z : Str) : Prop := 1 ≤ z.length ∧ z.length ≤ 8 ∧ ∀ c ∈ tl z, 97 ≤ c ∧ c ≤ 122
instance (z : Str) : Decidable (IsNm z) := by unfold IsNm; infer_instance
abbrev letters : Str := "abcdefghijklmnopqrstuvwxyz"
theorem letter_at : ∀ i, i < 26 → (letters.cps.toList)[i]? = some (97 + i) := by decide +kernel
theorem letters_all : ∀ c ∈ letters.cps.toList, 97 ≤ c ∧ c ≤ 122 := by decide +kernel
theorem join_one : ∀ cs : List Nat, tl (Txt.join "" (cs.map fun c => (⟨#[c]⟩ : Str))) = cs
  | [] => by
    rw [join_eq]
    rfl
  | [c] => by
    rw [join_eq]
    rfl
  | c :: d :: r => by
    have ih := join_one (d :: r)
    rw [join_eq] at ih ⊢
    have e : Str.join "" ((c :: d :: r).map fun c => (⟨#[c]⟩ : Str)) = (⟨#[c]⟩ : Str) ++ "" ++ Str.join "" ((d :: r).map fun c => (⟨#[c]⟩ : Str)) := rfl
    rw [e, tl_append, tl_append, ih]
    rfl
theorem len_tl (z : Str) : z.length = (tl z).length := by simp [Str.length, tl]
theorem name_of_letters {cs : List Nat} (h1 : 1 ≤ cs.length) (h8 : cs.length ≤ 8) (h : ∀ c ∈ cs, 97 ≤ c ∧ c ≤ 122) : IsNm (Txt.join "" (cs.map fun c => (⟨#[c]⟩ : Str))) := by
  refine ⟨?_, ?_, ?_⟩
  · rw [len_tl, join_one]
    exact h1
  · rw [len_tl, join_one]
    exact h8
  · rw [join_one]
    exact h
def spare (i : Nat) : Str := "q" ++ (⟨#[97 + i / 26]⟩ : Str) ++ (⟨#[97 + i % 26]⟩ : Str)
theorem spare_tl (i : Nat) : tl (spare i) = [113, 97 + i / 26, 97 + i % 26] := by
  unfold spare
  rw [tl_append, tl_append]
  rfl
theorem spare_nm {i : Nat} (h : i < 676) : IsNm (spare i) := by
  refine ⟨?_, ?_, ?_⟩
  · rw [len_tl, spare_tl]
    exact Nat.succ_le_succ (Nat.zero_le 2)
  · rw [len_tl, spare_tl]
    exact Nat.le_of_ble_eq_true rfl
  · rw [spare_tl]
    intro c hc
    simp only [List.mem_cons, List.not_mem_nil, or_false] at hc
    omega
theorem spare_inj {i j : Nat} (h : spare i = spare j) : i = j := by
  have e := congrArg tl h
  rw [spare_tl, spare_tl] at e
  simp only [List.cons.injEq, and_true, true_and] at e
  omega
theorem pigeon {α : Type} [DecidableEq α] : ∀ (l m : List α), l.Nodup → (∀ x ∈ l, x ∈ m) → l.length ≤ m.length
  | [], _, _, _ => Nat.zero_le _
  | x :: r, m, nd, h => by
    have hx := h x List.mem_cons_self
    have nd2 := List.nodup_cons.mp nd
    have ih := pigeon r (m.erase x) nd2.2 fun y hy => (List.mem_erase_of_ne fun z => nd2.1 (by rw [← z]; exact hy)).mpr (h y (List.mem_cons_of_mem _ hy))
    rw [List.length_erase_of_mem hx] at ih
    have := List.length_pos_of_mem hx
    rw [List.length_cons]
    omega
theorem spares_many {taken : List Str} (h : ∀ i, i < 676 → spare i ∈ taken) : 100 ≤ taken.length := by
  have q := pigeon ((List.range 100).map spare) taken ?_ ?_
  · rw [List.length_map, List.length_range] at q
    exact q
  · exact List.Pairwise.map spare (fun a b h e => h (spare_inj e)) List.nodup_range
  · intro x hx
    obtain ⟨i, hi, rfl⟩ := List.mem_map.mp hx
    exact h i (by have := List.mem_range.mp hi; omega)
theorem inV_strs (z : Str) : ∀ zs : List Str, inV (.str z) (zs.map V.str) = decide (z ∈ zs)
  | [] => rfl
  | y :: r => by
    have ih := inV_strs z r
    show (eqV (.str y) (.str z) || inV (.str z) (r.map V.str)) = decide (z ∈ y :: r)
    rw [ih]
    show ((y == z) || decide (z ∈ r)) = decide (z ∈ y :: r)
    by_cases e : y = z
    · subst e
      simp
    · have e2 : z ≠ y := fun q => e q.symm
      simp [e, e2]
theorem flat_strs : ∀ zs : List Str, (zs.map V.str).all flatV = true
  | [] => rfl
  | _ :: r => flat_strs r
end T5

set_option maxHeartbeats 3900000
namespace T5
open PySem PySem.Spec PyProof.Rows L2 TL
open C8 (pss_cut tCut pe_gc)
abbrev sLook : Stmt := top 38
abbrev sLooks : Stmt := top 39
theorem at_map {α β : Type} {f : α → β} {xs : List α} {d : Int} {x : α} (h : atI xs d = some x) : atI (xs.map f) d = some (f x) := by
  unfold atI at h ⊢
  rw [List.length_map]
  cases e : ixN xs.length d with
  | none =>
    rw [e] at h
    cases h
  | some j =>
    rw [e] at h
    have h2 : xs[j]? = some x := h
    show (xs.map f)[j]? = some (f x)
    rw [List.getElem?_map, h2]
    rfl
structure At (K : PySem.W.Frag) (mg : Str → Option Value) (x : Str) (f : Addr) (fd : FuncData) (ps : List Str) : Prop where
  m : mg x = some (.ref f)
  k : PySem.W.keepIn K (.ref f) = true
  b : L2.Binds K fd ps []
structure TB (mg : Str → Option Value) : Prop where
  int : mg "int" = none
  len : mg "len" = none
  range : mg "range" = none
  list : mg "list" = none
  tuple : mg "tuple" = none
  any : mg "any" = none
  all : mg "all" = none
  sorted : mg "sorted" = none
  isinstance : mg "isinstance" = none
  enumerate : mg "enumerate" = none
  zip : mg "zip" = none
  str : mg "str" = none
abbrev aD' (K : PySem.W.Frag) (mg : Str → Option Value) (f : Addr) (fd : FuncData) := At K mg "_law_draw" f fd ["_law_stream", "_law_many"]
def texts : List Str := ["", "x", "y", "x y", "no", "yes", "a/b", "-", "xa", "xb", "X"]
def spText : Sp := fun vs H Q _ => ∃ (st l : Addr) (c : Nat), vs = [.ref st] ∧ Strm H st l c ∧ c ≤ 1000000 ∧
  ∀ (z : Str) (H' : Hp), z ∈ texts → But st l H H' → Strm H' st l (c + 1) → Q (.str z) H'
structure Pool (H : Hp) (st l p : Addr) (zs : List Str) : Prop where
  h : H p = some (.lst (zs.map V.str))
  n1 : p ≠ st
  n2 : p ≠ l
theorem Pool.but {H H' : Hp} {st l p : Addr} {zs : List Str} (h : Pool H st l p zs) (B : But st l H H') : Pool H' st l p zs := ⟨B _ _ h.h h.n1 h.n2, h.n1, h.n2⟩
def spPath : Sp := fun vs H Q _ => ∃ (st l p : Addr) (c : Nat) (zs : List Str) (most : Int), vs = [.ref st, .ref p, .int most] ∧ Strm H st l c ∧ c ≤ 900000 ∧ Pool H st l p zs ∧ 0 < zs.length ∧ zs.length < 1000 ∧ (∀ z ∈ zs, IsNm z) ∧ 0 < most ∧ most < 1000 ∧
  ∀ (ys : List Str) (H' : Hp) (c' : Nat), 1 ≤ ys.length → (ys.length : Int) ≤ most → (∀ y ∈ ys, y ∈ zs) → But st l H H' → Strm H' st l c' → c' ≤ c + 1 + most.toNat → Q (.str (Txt.join "/" ys)) H'
def spFresh : Sp := fun vs H Q _ => ∃ (st l p : Addr) (c : Nat) (zs : List Str), vs = [.ref st, .ref p] ∧ Strm H st l c ∧ c ≤ 900000 ∧ Pool H st l p zs ∧ zs.length < 100 ∧
  ∀ (z : Str) (H' : Hp) (c' : Nat), IsNm z → z ∉ zs → But st l H H' → Strm H' st l c' → c' ≤ c + 11 → Q (.str z) H'
section
variable {P : Program} {w : World} {K : PySem.W.Frag} {mg : Str → Option Value} {base : Heap} {fD fP fPa fFr : Addr} {fdD fdP fdPa fdFr : FuncData}
theorem scTe : FnScope ["_law_stream"] ["_law_stream"] (defScope sText) := ⟨rfl, rfl, rfl, by decide +kernel, rfl, by decide +kernel, by decide +kernel⟩
theorem ok_text {f : Addr} {fd : FuncData} (F : Fun K "_law_text" "_law_text" sText f fd) (aD : aD' K mg fD fdD) (GD : FnOk P w K mg base CX0 1 fD fdD ["_law_stream", "_law_many"] spDraw) : FnOk P w K mg base CX0 2 f fd ["_law_stream"] spText := by
  refine F.ok scTe (fun vs H Q E h => ?_) (fun cdv A outer s H vs Q E hr h => ?_)
  · obtain ⟨st, l, c, rfl, _⟩ := h
    rfl
  · obtain ⟨st, l, c, rfl, S, hc, k⟩ := h
    refine ⟨_, pss_one (ps_ret (pe_ix ix_list (pe_lst (pa_cons pe_str (pa_cons pe_str (pa_cons pe_str (pa_cons pe_str (pa_cons pe_str (pa_cons pe_str (pa_cons pe_str (pa_cons pe_str (pa_cons pe_str (pa_cons pe_str (pa_cons pe_str pa_nil)))))))))))) (pe_call GD (hr.mono (by decide)) rfl aD.m aD.k aD.b .nil pass0 (pa_cons (pv 0) (pa_cons pe_int pa_nil))) (fun _ _ => rfl))), ?_⟩
    refine ⟨by show 11 ≤ sizeLine; decide, fun p hp => ?_⟩
    have np := S.ne_new hp
    refine ⟨_, rfl, st, l, c, _, rfl, S.up (same_new hp), by omega, by decide, by decide, fun d H' d0 d1 B S' => ?_⟩
    have hp' := B _ _ upd_same np.1 np.2
    obtain ⟨i, x, hx, ha⟩ := at_int (xs := texts.map V.str) d0 (by exact d1)
    obtain ⟨z, hz, rfl⟩ := List.mem_map.mp (List.mem_of_getElem? hx)
    exact ⟨p, texts.map V.str, d, .str z, rfl, rfl, SqL.of hp', ha, k _ _ hz ((But.same (same_new hp)).trans B) S'⟩
theorem scPa : FnScope ["_law_stream", "_law_pool_here", "_law_most", "_law_k"] ["_law_stream", "_law_pool_here", "_law_most"] (defScope sPath) := ⟨rfl, rfl, rfl, by decide +kernel, rfl, by decide +kernel, by decide +kernel⟩
theorem names_len {ys : List Str} (h : ∀ y ∈ ys, y.length ≤ 8) : (ys.map (·.length)).sum ≤ ys.length * 8 := by
  induction ys with
  | nil => exact Nat.le_refl _
  | cons y r ih =>
    have := ih fun z hz => h z (List.mem_cons_of_mem _ hz)
    have := h y List.mem_cons_self
    simp only [List.map_cons, List.sum_cons, List.length_cons]
    omega
theorem ok_path {f : Addr} {fd : FuncData} (F : Fun K "_law_path" "_law_path" sPath f fd) (T : TB mg) (aD : aD' K mg fD fdD) (aP : At K mg "_law_pick" fP fdP ["_law_stream", "_law_things"]) (GD : FnOk P w K mg base CX0 1 fD fdD ["_law_stream", "_law_many"] spDraw)
    (GP : FnOk P w K mg base CX0 2 fP fdP ["_law_stream", "_law_things"] spPick) : FnOk P w K mg base CX0 3 f fd ["_law_stream", "_law_pool_here", "_law_most"] spPath := by
  refine F.ok scPa (fun vs H Q E h => ?_) (fun cdv A outer s H vs Q E hr h => ?_)
  · obtain ⟨st, l, p, c, zs, most, rfl, _⟩ := h
    rfl
  · obtain ⟨st, l, p, c, zs, most, rfl, S, hc, L, z0, z1, nm, m0, m1, k⟩ := h
    refine ⟨_, pss_one (ps_ret (pe_join pe_str (pe_lc (own := [("_law_k", 3)]) (g := gName 3) (tt := tYes) rfl scPa.nd (pi_range1 rfl T.range (pa_cons (pe_op op_add pe_int (pe_call GD (hr.mono (by decide)) rfl aD.m aD.k aD.b .nil pass0 (pa_cons (pv 0) (pa_cons (pv 2) pa_nil)))) pa_nil)) (blkOk_by (own := [("_law_k", 3)]) (N := ["_law_stream", "_law_pool_here", "_law_most", "_law_k"]) (sc := defScope sPath) (by decide +kernel)) (fun _ _ _ _ _ => (pg_name (i := 3) scPa.nd rfl (Or.inl rfl))) (fun _ _ _ _ _ => pts_nil) (fun _ _ _ _ _ => (pe_call GP (hr.mono (by decide)) rfl aP.m aP.k aP.b .nil pass0 (pa_cons (pv 0) (pa_cons (pv 1) pa_nil))))))), ?_⟩
    refine ⟨⟨_, rfl⟩, _, rfl, _, rfl, st, l, c, _, rfl, S, by omega, m0, by omega, fun d H1 d0 d1 B1 S1 => ?_⟩
    obtain ⟨n, hn⟩ : ∃ n : Nat, 1 + d = (n : Int) := ⟨(1 + d).toNat, by omega⟩
    refine ⟨_, _, rfl, rfl, 1 + d, rfl, by omega, by omega, fun D hD => ?_⟩
    rw [show (1 + d).toNat = n by omega]
    refine lc_range (lo := 0) (n := n) (fun i H' => But st l H1 H' ∧ Strm H' st l (c + 1 + i) ∧ ∃ ys : List Str, ys.length = i ∧ H' D = some (.lst (ys.map V.str)) ∧ ∀ y ∈ ys, y ∈ zs)
      ⟨But.same (same_new hD), S1.up (same_new hD), [], rfl, upd_same, by simp⟩ ?_ ?_
    · rintro i H' hi ⟨B', S', ys, hy, hD', hs⟩
      have nD := S1.ne_new hD
      have L' := L.but (B1.trans B')
      refine ⟨rfl, _, rfl, _, rfl, .inl ⟨st, l, c + 1 + i, p, zs.map V.str, rfl, S', by omega, L'.h, L'.n1, L'.n2, by rw [List.length_map]; exact z0, by rw [List.length_map]; exact z1, fun j x H'' hx B'' S'' => ?_⟩⟩
      obtain ⟨z, hz, rfl⟩ := List.mem_map.mp (List.mem_of_getElem? hx)
      refine ⟨_, B'' _ _ hD' nD.1 nD.2, ?_, (B'.trans B'').put hD, S''.put nD, ys ++ [z], ?_, ?_, fun y hy' => ?_⟩
      · rw [List.length_map, hy]
        exact Nat.lt_of_lt_of_le (show i < 1001 by omega) (by decide)
      · rw [List.length_append, hy]
        rfl
      · rw [upd_same, List.map_append]
        rfl
      · rcases List.mem_append.mp hy' with q | q
        · exact hs y q
        · rw [List.mem_singleton.mp q]
          exact hz
    · rintro H' ⟨B', S', ys, hy, hD', hs⟩
      refine ⟨_, D, ys, rfl, rfl, .inl (SqL.of hD'), ?_, k ys H' (c + 1 + n) (by omega) (by omega) hs (B1.trans B') S' (by omega)⟩
      have := names_len fun y q => (nm y (hs y q)).2.1
      have e : (("/" : Str).length) = 1 := by decide
      rw [e]
      omega
def fwords : List Str := ["read", "list", "setting", "tool", "end", "main", "none"]
theorem fwords_nm : ∀ z ∈ fwords, IsNm z := by decide +kernel
def nums : List Int := [1, 1, 1, 2, 3, 8]
theorem nums_ok : ∀ n ∈ nums, 1 ≤ n ∧ n ≤ 8 := by decide
theorem scFr : FnScope ["_law_stream", "_law_taken", "_law_letters", "_law_words", "_law_k", "_law_name", "_law_spare"] ["_law_stream", "_law_taken"] (defScope sFresh) := ⟨rfl, rfl, rfl, by decide +kernel, rfl, by decide +kernel, by decide +kernel⟩
theorem ok_fresh {f : Addr} {fd : FuncData} (F : Fun K "_law_fresh" "_law_fresh" sFresh f fd) (T : TB mg) (aD : aD' K mg fD fdD) (aP : At K mg "_law_pick" fP fdP ["_law_stream", "_law_things"]) (GD : FnOk P w K mg base CX0 1 fD fdD ["_law_stream", "_law_many"] spDraw)
    (GP : FnOk P w K mg base CX0 2 fP fdP ["_law_stream", "_law_things"] spPick) : FnOk P w K mg base CX0 3 f fd ["_law_stream", "_law_taken"] spFresh := by
  refine F.ok scFr (fun vs H Q E h => ?_) (fun cdv A outer s H vs Q E hr h => ?_)
  · obtain ⟨st, l, p, c, zs, rfl, _⟩ := h
    rfl
  · obtain ⟨st, l, p, c, zs, rfl, S, hc, L, z1, k⟩ := h
    refine ⟨_, pss_cut (ps_asg (pe_tup (pa_cons pe_str (pa_cons (pe_lst (pa_cons pe_str (pa_cons pe_str (pa_cons pe_str (pa_cons pe_str (pa_cons pe_str (pa_cons pe_str (pa_cons pe_str pa_nil)))))))) pa_nil))) (pg_tup rfl (pgs_cons (pg_name (i := 2) scFr.nd rfl (Or.inr rfl)) (pgs_cons (pg_name (i := 3) scFr.nd rfl (Or.inl rfl)) pgs_nil))))
        (pss_cut (ps_set (i := 5) scFr.nd rfl (Or.inl rfl) (pe_join pe_str (pe_lc (own := [("_law_k", 4)]) (g := gName 4) (tt := tYes) rfl scFr.nd (pi_range1 rfl T.range (pa_cons (pe_ix ix_list (pe_lst (pa_cons pe_int (pa_cons pe_int (pa_cons pe_int (pa_cons pe_int (pa_cons pe_int (pa_cons pe_int pa_nil))))))) (pe_call GD (hr.mono (by decide)) rfl aD.m aD.k aD.b .nil pass0 (pa_cons (pv 0) (pa_cons pe_int pa_nil))) (fun _ _ => rfl)) pa_nil)) (blkOk_by (own := [("_law_k", 4)]) (N := ["_law_stream", "_law_taken", "_law_letters", "_law_words", "_law_k", "_law_name", "_law_spare"]) (sc := defScope sFresh) (by decide +kernel)) (fun _ _ _ _ _ => (pg_name (i := 4) scFr.nd rfl (Or.inl rfl))) (fun _ _ _ _ _ => pts_nil) (fun _ _ _ _ _ => (pe_ix ix_str (pv 2) (pe_call GD (hr.mono (by decide)) rfl aD.m aD.k aD.b .nil pass0 (pa_cons (pv 0) (pa_cons pe_int pa_nil))) (fun _ _ => rfl))))))
        (pss_cut (ps_set (i := 5) scFr.nd rfl (Or.inl rfl) (pe_ifExp (pt_cmpR op_eq (pe_call GD (hr.mono (by decide)) rfl aD.m aD.k aD.b .nil pass0 (pa_cons (pv 0) (pa_cons pe_int pa_nil))) pe_int (nomark _)) (pe_call GP (hr.mono (by decide)) rfl aP.m aP.k aP.b .nil pass0 (pa_cons (pv 0) (pa_cons (pv 3) pa_nil))) (pv 5)))
        (pss_cut (ps_for PassesOwn.never rfl (pi_range1 rfl T.range (pa_cons (pe_op op_mul pe_int (pe_callTy call_int1 (by rfl) T.int (by decide +kernel) (pa_cons (pe_cmpR op_in_seq (pv 5) (pv 1) (by rfl)) pa_nil))) pa_nil)) (pg_name (i := 4) scFr.nd rfl (Or.inl rfl)) (pss_cut (ps_set (i := 6) scFr.nd rfl (Or.inl rfl) (pe_op op_add_str (pe_op op_add_str pe_str (pe_ix ix_str (pv 2) (pe_op op_fdiv (pv 4) pe_int) (fun _ _ => rfl))) (pe_ix ix_str (pv 2) (pe_op op_mod (pv 4) pe_int) (fun _ _ => rfl))))
        (pss_one (ps_if (pt_cmpR op_notIn_seq (pv 6) (pv 1) (by rfl)) (pss_one (ps_ret (pv 6))) (pss_nil)))))
        (pss_one (ps_ret (pv 5)))))), ?_⟩
    -- letters, words
    refine ⟨fun σ H' => ∃ q, σ = [some (.ref st), some (.ref p), some (.str letters), some (.ref q), none, none, none] ∧ But st l H H' ∧ Strm H' st l c ∧ Pool H' st l q fwords, ?_, ?_⟩
    · refine ⟨by show 7 ≤ sizeLine; decide, fun q hq => ⟨by show 2 ≤ sizeLine; decide, fun t ht => ?_⟩⟩
      have nq := S.ne_new hq
      have nt : q ≠ t := ne_of_none upd_same ht
      have s1 : Same H (upd (upd H q (.lst (fwords.map V.str))) t (.tup [.str letters, .ref q])) := (same_new hq).trans (same_new ht)
      exact ⟨t, _, rfl, SqT.of upd_same, rfl, _, _, rfl, _, _, rfl, rfl, q, rfl, But.same s1, S.up s1, ⟨by rw [upd_ne nt]; exact upd_same, nq.1, nq.2⟩⟩
    rintro _ H1 ⟨q, rfl, B1, S1, Lq⟩
    -- name = ''.join(..)
    refine ⟨fun σ H' => ∃ z x4 c', σ = [some (.ref st), some (.ref p), some (.str letters), some (.ref q), x4, some (.str z), none] ∧ IsNm z ∧ But st l H H' ∧ Strm H' st l c' ∧ c' ≤ c + 9 ∧ Pool H' st l q fwords, ?_, ?_⟩
    · refine ⟨⟨_, rfl⟩, by show 6 ≤ sizeLine; decide, fun u hu => ⟨_, rfl, st, l, c, _, rfl, S1.up (same_new hu), by omega, by decide, by decide, fun d H2 d0 d1 B2 S2 => ?_⟩⟩
      have nu := S1.ne_new hu
      have hu' := B2 _ _ upd_same nu.1 nu.2
      obtain ⟨i, x, hx, ha⟩ := at_int (xs := nums) d0 (by exact d1)
      obtain ⟨x0, x8⟩ := nums_ok x (List.mem_of_getElem? hx)
      obtain ⟨n, rfl⟩ := Int.eq_ofNat_of_zero_le (show 0 ≤ x by omega)
      have ha2 : atI (nums.map V.int) d = some (.int (n : Int)) := at_map ha
      refine ⟨u, _, d, _, rfl, rfl, SqL.of hu', ha2, (n : Int), rfl, by omega, by omega, fun D hD => ?_⟩
      have B02 : But st l H1 H2 := (But.same (same_new hu)).trans B2
      have nD := S2.ne_new hD
      refine lc_range (lo := 0) (n := n) (fun i H' => But st l H2 H' ∧ Strm H' st l (c + 1 + i) ∧ ∃ ys : List Nat, ys.length = i ∧ H' D = some (.lst ((ys.map fun c => (⟨#[c]⟩ : Str)).map V.str)) ∧ ∀ y ∈ ys, 97 ≤ y ∧ y ≤ 122)
        ⟨But.same (same_new hD), S2.up (same_new hD), [], rfl, upd_same, by simp⟩ ?_ ?_
      · rintro i H' hi ⟨B', S', ys, hy, hD', hs⟩
        refine ⟨rfl, _, rfl, _, rfl, st, l, c + 1 + i, _, rfl, S', by omega, by decide, by decide, fun e H'' e0 e1 B'' S'' => ?_⟩
        obtain ⟨j, y, hj, hat⟩ := at_int (xs := letters.cps.toList) e0 (by exact e1)
        refine ⟨letters, e, y, rfl, rfl, by decide, hat, _, B'' _ _ hD' nD.1 nD.2, ?_, (B'.trans B'').put hD, S''.put nD, ys ++ [y], ?_, ?_, fun v hv => ?_⟩
        · rw [List.length_map, List.length_map, hy]
          exact Nat.lt_of_lt_of_le (show i < 1001 by omega) (by decide)
        · rw [List.length_append, hy]
          rfl
        · rw [upd_same, List.map_append, List.map_append]
          rfl
        · rcases List.mem_append.mp hv with g | g
          · exact hs v g
          · rw [List.mem_singleton.mp g]
            exact letters_all y (List.mem_of_getElem? hj)
      · rintro H' ⟨B', S', ys, hy, hD', hs⟩
        refine ⟨_, D, ys.map fun c => ⟨#[c]⟩, rfl, rfl, .inl (SqL.of hD'), ?_, _, none, c + 1 + n, rfl, name_of_letters (by omega) (by omega) hs, B1.trans (B02.trans B'), S', by omega, (Lq.but B02).but B'⟩
        have := names_len (ys := ys.map fun c => (⟨#[c]⟩ : Str)) fun y q => by
          obtain ⟨c, _, rfl⟩ := List.mem_map.mp q
          exact (by decide : 1 ≤ 8)
        have e : (("" : Str).length) = 0 := by decide
        rw [e]
        rw [List.length_map] at this ⊢
        omega
    rintro _ H2 ⟨z, x4, c2, rfl, nz, B2, S2, hc2, Lq2⟩
    -- name = pick(words) if draw(9) == 0 else name
    refine ⟨fun σ H' => ∃ z x4 c', σ = [some (.ref st), some (.ref p), some (.str letters), some (.ref q), x4, some (.str z), none] ∧ IsNm z ∧ But st l H H' ∧ Strm H' st l c' ∧ c' ≤ c + 11, ?_, ?_⟩
    · refine ⟨_, rfl, st, l, c2, _, rfl, S2, by omega, by decide, by decide, fun d H3 d0 d1 B3 S3 => ⟨rfl, _, rfl, ?_⟩⟩
      refine ite2 (fun _ => ?_) (fun _ => ?_)
      · have Lq3 := Lq2.but B3
        refine ⟨_, rfl, _, rfl, .inl ⟨st, l, c2 + 1, q, _, rfl, S3, by omega, Lq3.h, Lq3.n1, Lq3.n2, by decide, by decide, fun j x H4 hx B4 S4 => ?_⟩⟩
        obtain ⟨y, hy, rfl⟩ := List.mem_map.mp (List.mem_of_getElem? hx)
        exact ⟨y, x4, c2 + 1 + 1, rfl, fwords_nm y hy, (B2.trans B3).trans B4, S4, by omega⟩
      · exact ⟨_, rfl, z, x4, c2 + 1, rfl, nz, B2.trans B3, S3, by omega⟩
    rintro _ H3 ⟨z, x4, c3, rfl, nz, B3, S3, hc3⟩
    have L3 := L.but B3
    -- the spare names
    refine ⟨fun σ H' => ∃ x4 x6, σ = [some (.ref st), some (.ref p), some (.str letters), some (.ref q), x4, some (.str z), x6] ∧ H' = H3 ∧ z ∉ zs, ?_, ?_⟩
    · refine ⟨_, rfl, _, rfl, p, _, rfl, .inl (SqL.of L3.h), rfl, flat_strs zs, .inr ⟨_, rfl, _, _, rfl, rfl, .inl ⟨by decide, by decide⟩, ?_⟩⟩
      have fz : (if false = true then !inV (.str z) (zs.map V.str) else inV (.str z) (zs.map V.str)) = decide (z ∈ zs) := inV_strs z zs
      rw [fz]
      by_cases hz : z ∈ zs
      · rw [decide_eq_true hz]
        refine ⟨676, rfl, by decide, by decide, for_range (lo := 0) (n := 676) (fun i σ H' => ∃ x4 x6, σ = [some (.ref st), some (.ref p), some (.str letters), some (.ref q), x4, some (.str z), x6] ∧ H' = H3 ∧ ∀ j, j < i → spare j ∈ zs)
          ⟨x4, none, rfl, rfl, fun j hj => absurd hj (Nat.not_lt_zero j)⟩ ?_ ?_⟩
        · rintro i _ H4 hi ⟨y4, y6, rfl, rfl, hs⟩
          have q1 : (0 + (i : Int)) / 26 = ((i / 26 : Nat) : Int) := by omega
          have q2 : (0 + (i : Int)) % 26 = ((i % 26 : Nat) : Int) := by omega
          refine ⟨fun σ H' => σ = [some (.ref st), some (.ref p), some (.str letters), some (.ref q), some (.int (0 + i)), some (.str z), some (.str (spare i))] ∧ H' = H4, ?_, ?_⟩
          · refine ⟨_, rfl, _, rfl, _, _, rfl, rfl, ⟨by decide, by decide⟩, letters, _, 97 + i / 26, rfl, rfl, by decide, ?_, _, _, rfl, rfl, (show 2 ≤ sizeLine by decide), _, rfl, _, rfl, _, _, rfl, rfl, (by show (0 : Int) < 26; decide), letters, _, 97 + i % 26, rfl, rfl, by decide, ?_, _, _, rfl, rfl, (show 3 ≤ sizeLine by decide), rfl, rfl⟩
            · rw [q1]
              exact atI_nat (letter_at _ (by omega))
            · rw [q2]
              exact atI_nat (letter_at _ (by omega))
          rintro _ _ ⟨rfl, rfl⟩
          refine ⟨_, rfl, _, rfl, p, _, rfl, .inl (SqL.of L3.h), rfl, flat_strs zs, ?_⟩
          have fs : (if true = true then !inV (.str (spare i)) (zs.map V.str) else inV (.str (spare i)) (zs.map V.str)) = !decide (spare i ∈ zs) := congrArg (! ·) (inV_strs (spare i) zs)
          rw [fs]
          by_cases hsp : spare i ∈ zs
          · rw [decide_eq_true hsp]
            refine ⟨_, rfl, iteF ⟨_, _, rfl, rfl, fun j hj => ?_⟩⟩
            rcases Nat.lt_succ_iff_lt_or_eq.mp hj with g | g
            · exact hs j g
            · rw [g]
              exact hsp
          · rw [decide_eq_false hsp]
            exact ⟨_, rfl, iteT ⟨_, rfl, k _ _ c3 (spare_nm hi) hsp B3 S3 hc3⟩⟩
        · rintro _ _ ⟨y4, y6, rfl, rfl, hs⟩
          have := spares_many hs
          omega
      · rw [decide_eq_false hz]
        refine ⟨0, rfl, by decide, by decide, for_range (lo := 0) (n := 0) (fun i σ H' => ∃ x4 x6, σ = [some (.ref st), some (.ref p), some (.str letters), some (.ref q), x4, some (.str z), x6] ∧ H' = H3) ⟨x4, none, rfl, rfl⟩ (fun i _ _ hi => absurd hi (Nat.not_lt_zero i)) ?_⟩
        rintro _ _ ⟨y4, y6, rfl, rfl⟩
        exact ⟨y4, y6, rfl, rfl, hz⟩
    rintro _ _ ⟨x4, x6, rfl, rfl, nin⟩
    exact ⟨_, rfl, k z _ c3 nz nin B3 S3 hc3⟩
end
end T5

set_option maxHeartbeats 3900000
namespace T5
open PySem PySem.Spec PyProof.Rows L2 TL
open C8 (pss_cut tCut pe_gc)
def spPool : Sp := fun vs H Q _ => ∃ (st l : Addr) (c : Nat) (many : Int), vs = [.ref st, .int many] ∧ Strm H st l c ∧ c ≤ 800000 ∧ 0 ≤ many ∧ many ≤ 50 ∧
  ∀ (p : Addr) (zs : List Str) (H' : Hp) (c' : Nat), (zs.length : Int) = many → zs.Nodup → (∀ z ∈ zs, IsNm z) → H p = none → Pool H' st l p zs → But st l H H' → Strm H' st l c' → c' ≤ c + 11 * many.toNat → Q (.ref p) H'
inductive Lk
  | rd (p : List Str)
  | ls (p : List Str)
  | se (n : Str)
  | tl
deriving DecidableEq
abbrev js (p : List Str) : Str := Txt.join "/" p
def lkV : Lk → List V
  | .rd p => [.str "read", .str (js p)]
  | .ls p => [.str "list", .str (js p)]
  | .se n => [.str "setting", .str n]
  | .tl => [.str "tool"]
def LkOn (zs : List Str) (m : Nat) : Lk → Prop
  | .rd p => p ≠ [] ∧ p.length ≤ m ∧ ∀ y ∈ p, y ∈ zs
  | .ls p => p.length ≤ m ∧ ∀ y ∈ p, y ∈ zs
  | .se n => n ∈ zs
  | .tl => True
def spLook : Sp := fun vs H Q _ => ∃ (st l p : Addr) (c : Nat) (zs : List Str), vs = [.ref st, .ref p] ∧ Strm H st l c ∧ c ≤ 800000 ∧ Pool H st l p zs ∧ 0 < zs.length ∧ zs.length < 1000 ∧ (∀ z ∈ zs, IsNm z) ∧
  ∀ (t : Addr) (k : Lk) (H' : Hp) (c' : Nat), LkOn zs 3 k → H t = none → H' t = some (.tup (lkV k)) → But st l H H' → Strm H' st l c' → c' ≤ c + 6 → Q (.ref t) H'
section
variable {P : Program} {w : World} {K : PySem.W.Frag} {mg : Str → Option Value} {base : Heap} {fD fP fPa fFr : Addr} {fdD fdP fdPa fdFr : FuncData}
theorem scPo : FnScope ["_law_stream", "_law_many", "_law_found", "_law_k"] ["_law_stream", "_law_many"] (defScope sPool) := ⟨rfl, rfl, rfl, by decide +kernel, rfl, by decide +kernel, by decide +kernel⟩
theorem But.none {st l p : Addr} {H H' : Hp} (B : But st l H H') (h : H' p = Option.none) (n : p ≠ st ∧ p ≠ l) : H p = Option.none := by
  cases e : H p with
  | none => rfl
  | some o =>
    rw [B p o e n.1 n.2] at h
    cases h
theorem ok_pool {f : Addr} {fd : FuncData} (F : Fun K "_law_pool" "_law_pool" sPool f fd) (T : TB mg) (aFr : At K mg "_law_fresh" fFr fdFr ["_law_stream", "_law_taken"]) (GFr : FnOk P w K mg base CX0 3 fFr fdFr ["_law_stream", "_law_taken"] spFresh) : FnOk P w K mg base CX0 4 f fd ["_law_stream", "_law_many"] spPool := by
  refine F.ok scPo (fun vs H Q E h => ?_) (fun cdv A outer s H vs Q E hr h => ?_)
  · obtain ⟨st, l, c, many, rfl, _⟩ := h
    rfl
  · obtain ⟨st, l, c, many, rfl, S, hc, m0, m1, k⟩ := h
    obtain ⟨n, rfl⟩ := Int.eq_ofNat_of_zero_le m0
    refine ⟨_, pss_cut (ps_set (i := 2) scPo.nd rfl (Or.inl rfl) (pe_lst pa_nil))
        (pss_cut (ps_for PassesOwn.never rfl (pi_range1 rfl T.range (pa_cons (pv 1) pa_nil)) (pg_name (i := 3) scPo.nd rfl (Or.inl rfl)) (pss_one (ps_expr (pe_bm PySem.F.plainAttrs_list PySem.F.slot_list_append PySem.F.type_list_append mt_append (pv 2) (pa_cons (pe_call GFr (hr.mono (by decide)) rfl aFr.m aFr.k aFr.b .nil pass0 (pa_cons (pv 0) (pa_cons (pv 2) pa_nil))) pa_nil)))))
        (pss_one (ps_ret (pv 2)))), ?_⟩
    refine ⟨fun σ H' => ∃ p, σ = [some (.ref st), some (.int n), some (.ref p), none] ∧ H p = none ∧ H' = upd H p (.lst []), ⟨Nat.zero_le _, fun p hp => ⟨p, rfl, hp, rfl⟩⟩, ?_⟩
    rintro _ _ ⟨p, rfl, hp, rfl⟩
    have np := S.ne_new hp
    refine ⟨fun σ H' => ∃ x3 zs, σ = [some (.ref st), some (.int n), some (.ref p), x3] ∧ zs.length = n ∧ zs.Nodup ∧ (∀ z ∈ zs, IsNm z) ∧ Pool H' st l p zs ∧ But st l H H' ∧ ∃ c', Strm H' st l c' ∧ c' ≤ c + 11 * n, ?_, ?_⟩
    · refine ⟨_, rfl, n, rfl, by omega, by omega, for_range (lo := 0) (n := n) (fun i σ H' => ∃ x3 zs, σ = [some (.ref st), some (.int n), some (.ref p), x3] ∧ zs.length = i ∧ zs.Nodup ∧ (∀ z ∈ zs, IsNm z) ∧ Pool H' st l p zs ∧ But st l H H' ∧ ∃ c', Strm H' st l c' ∧ c' ≤ c + 11 * i)
        ⟨none, [], rfl, rfl, List.nodup_nil, by simp, ⟨upd_same, np.1, np.2⟩, But.same (same_new hp), c, S.up (same_new hp), by omega⟩ ?_ fun _ _ h => h⟩
      rintro i _ H1 hi ⟨x3, zs, rfl, hz, nd, nm, L, B, c1, S1, hc1⟩
      refine ⟨_, rfl, .inl ⟨rfl, _, SqL.of L.h⟩, _, rfl, _, rfl, st, l, p, c1, zs, rfl, S1, by omega, L, by omega, fun z H2 c2 nz nin B2 S2 hc2 => ?_⟩
      have L2 := L.but B2
      refine ⟨p, _, _, rfl, rfl, L2.h, ?_, _, zs ++ [z], rfl, by rw [List.length_append, hz]; rfl, List.nodup_append.mpr ⟨nd, List.nodup_cons.mpr ⟨by simp, List.nodup_nil⟩, ?_⟩, ?_, ⟨?_, L2.n1, L2.n2⟩, (B.trans B2).put hp, c2, S2.put np, by omega⟩
      · rw [List.length_map, hz]
        exact Nat.lt_of_lt_of_le (show i < 1001 by omega) (by decide)
      · intro a ha b hb e
        rw [e, List.mem_singleton.mp hb] at ha
        exact nin ha
      · intro y hy
        rcases List.mem_append.mp hy with q | q
        · exact nm y q
        · rw [List.mem_singleton.mp q]
          exact nz
      · rw [upd_same, List.map_append]
        rfl
    rintro _ H2 ⟨x3, zs, rfl, hz, nd, nm, L, B, c', S', hc'⟩
    exact ⟨_, rfl, k p zs H2 c' (by omega) nd nm hp L B S' (by omega)⟩
theorem scLo : FnScope ["_law_stream", "_law_pool_here", "_law_way"] ["_law_stream", "_law_pool_here"] (defScope sLook) := ⟨rfl, rfl, rfl, by decide +kernel, rfl, by decide +kernel, by decide +kernel⟩
theorem ok_look {f : Addr} {fd : FuncData} (F : Fun K "_law_look" "_law_look" sLook f fd) (T : TB mg) (aD : aD' K mg fD fdD) (aP : At K mg "_law_pick" fP fdP ["_law_stream", "_law_things"]) (aPa : At K mg "_law_path" fPa fdPa ["_law_stream", "_law_pool_here", "_law_most"]) (GD : FnOk P w K mg base CX0 1 fD fdD ["_law_stream", "_law_many"] spDraw)
    (GP : FnOk P w K mg base CX0 2 fP fdP ["_law_stream", "_law_things"] spPick) (GPa : FnOk P w K mg base CX0 3 fPa fdPa ["_law_stream", "_law_pool_here", "_law_most"] spPath) : FnOk P w K mg base CX0 4 f fd ["_law_stream", "_law_pool_here"] spLook := by
  refine F.ok scLo (fun vs H Q E h => ?_) (fun cdv A outer s H vs Q E hr h => ?_)
  · obtain ⟨st, l, p, c, zs, rfl, _⟩ := h
    rfl
  · obtain ⟨st, l, p, c, zs, rfl, S, hc, L, z0, z1, nm, k⟩ := h
    refine ⟨_, pss_cut (ps_set (i := 2) scLo.nd rfl (Or.inl rfl) (pe_call GD (hr.mono (by decide)) rfl aD.m aD.k aD.b .nil pass0 (pa_cons (pv 0) (pa_cons pe_int pa_nil))))
        (pss_cons (ps_if (pt_cmpR op_lt (pv 2) pe_int (nomark _)) (pss_one (ps_ret (pe_tup (pa_cons pe_str (pa_cons (pe_call GPa (hr.mono (by decide)) rfl aPa.m aPa.k aPa.b .nil pass0 (pa_cons (pv 0) (pa_cons (pv 1) (pa_cons pe_int pa_nil)))) pa_nil))))) (pss_nil))
        (pss_cons (ps_if (pt_cmpR op_lt (pv 2) pe_int (nomark _)) (pss_one (ps_ret (pe_tup (pa_cons pe_str (pa_cons (pe_ifExp (pt_cmpR op_eq (pe_call GD (hr.mono (by decide)) rfl aD.m aD.k aD.b .nil pass0 (pa_cons (pv 0) (pa_cons pe_int pa_nil))) pe_int (nomark _)) pe_str (pe_call GPa (hr.mono (by decide)) rfl aPa.m aPa.k aPa.b .nil pass0 (pa_cons (pv 0) (pa_cons (pv 1) (pa_cons pe_int pa_nil))))) pa_nil))))) (pss_nil))
        (pss_one (ps_ret (pe_ifExp (pt_cmpR op_eq (pv 2) pe_int (nomark _)) (pe_tup (pa_cons pe_str (pa_cons (pe_call GP (hr.mono (by decide)) rfl aP.m aP.k aP.b .nil pass0 (pa_cons (pv 0) (pa_cons (pv 1) pa_nil))) pa_nil))) (pe_tup (pa_cons pe_str pa_nil))))))), ?_⟩
    refine ⟨fun σ H' => ∃ d : Int, σ = [some (.ref st), some (.ref p), some (.int d)] ∧ But st l H H' ∧ Strm H' st l (c + 1), ⟨_, rfl, st, l, c, _, rfl, S, by omega, by decide, by decide, fun d H' d0 d1 B S' => ⟨d, rfl, B, S'⟩⟩, ?_⟩
    rintro _ H1 ⟨d, rfl, B1, S1⟩
    have L1 := L.but B1
    have fin : ∀ (k' : Lk) (H2 : Hp) (c2 : Nat) (t : Addr), LkOn zs 3 k' → But st l H1 H2 → Strm H2 st l c2 → c2 ≤ c + 6 → H2 t = none → Q (.ref t) (upd H2 t (.tup (lkV k'))) := fun k' H2 c2 t o B2 S2 hc2 ht =>
      k t k' _ c2 o (But.none (B1.trans B2) ht (S2.ne_new ht)) upd_same ((B1.trans B2).put (But.none (B1.trans B2) ht (S2.ne_new ht))) (S2.up (same_new ht)) hc2
    refine ⟨_, rfl, _, _, rfl, rfl, _, rfl, ite2 (fun _ => ?_) (fun _ => ?_)⟩
    · refine ⟨_, rfl, _, rfl, st, l, p, c + 1, zs, 3, rfl, S1, by omega, L1, z0, z1, nm, by decide, by decide, fun ys H2 c2 y1 y2 hy B2 S2 hc2 => ⟨by show 2 ≤ sizeLine; decide, fun t ht => ?_⟩⟩
      exact fin (.rd ys) H2 c2 t ⟨by rintro rfl; exact absurd y1 (by decide), by omega, hy⟩ B2 S2 (by omega) ht
    refine ⟨_, rfl, _, _, rfl, rfl, _, rfl, ite2 (fun _ => ?_) (fun _ => ?_)⟩
    · refine ⟨_, rfl, st, l, c + 1, _, rfl, S1, by omega, by decide, by decide, fun e H2 e0 e1 B2 S2 => ⟨rfl, _, rfl, ite2 (fun _ => ?_) (fun _ => ?_)⟩⟩
      · exact ⟨by show 2 ≤ sizeLine; decide, fun t ht => fin (.ls []) H2 _ t ⟨Nat.zero_le _, by simp⟩ B2 S2 (by omega) ht⟩
      · refine ⟨_, rfl, _, rfl, st, l, p, c + 1 + 1, zs, 2, rfl, S2, by omega, L1.but B2, z0, z1, nm, by decide, by decide, fun ys H3 c3 y1 y2 hy B3 S3 hc3 => ⟨by show 2 ≤ sizeLine; decide, fun t ht => ?_⟩⟩
        exact fin (.ls ys) H3 c3 t ⟨by omega, hy⟩ (B2.trans B3) S3 (by omega) ht
    refine ⟨_, rfl, rfl, _, rfl, ite2 (fun _ => ?_) (fun _ => ?_)⟩
    · refine ⟨_, rfl, _, rfl, .inl ⟨st, l, c + 1, p, _, rfl, S1, by omega, L1.h, L1.n1, L1.n2, by rw [List.length_map]; exact z0, by rw [List.length_map]; exact z1, fun i x H2 hx B2 S2 => ⟨by show 2 ≤ sizeLine; decide, fun t ht => ?_⟩⟩⟩
      obtain ⟨z, hz, rfl⟩ := List.mem_map.mp (List.mem_of_getElem? hx)
      exact fin (.se z) H2 _ t hz B2 S2 (by omega) ht
    · exact ⟨by show 1 ≤ sizeLine; decide, fun t ht => fin .tl H1 _ t trivial (fun _ _ e _ _ => e) S1 (by omega) ht⟩
end
end T5

set_option maxHeartbeats 3900000
namespace T5
open PySem PySem.Spec PyProof.Rows L2 TL
theorem tl_sl : tl ("/" : Str) = [47] := by decide +kernel
def Nms (p : List Str) : Prop := ∀ y ∈ p, IsNm y
instance (p : List Str) : Decidable (Nms p) := by unfold Nms; infer_instance
abbrev jl (p : List Str) : List Nat := joinL [47] (p.map tl)
theorem tl_js (p : List Str) : tl (js p) = jl p := by
  show tl (Txt.join "/" p) = jl p
  rw [join_eq, tl_join, tl_sl]
theorem nm_free {y : Str} (h : IsNm y) : 47 ∉ tl y := fun m => by
  have := h.2.2 47 m
  omega
theorem nm_ne {y : Str} (h : IsNm y) : tl y ≠ [] := fun e => by
  have h1 := h.1
  rw [len_tl, e] at h1
  exact absurd h1 (by decide)
theorem Nms.tail {y : Str} {p : List Str} (h : Nms (y :: p)) : Nms p := fun z hz => h z (List.mem_cons_of_mem _ hz)
theorem jl_app : ∀ {q r : List Str}, q ≠ [] → r ≠ [] → jl (q ++ r) = jl q ++ 47 :: jl r
  | [], _, h, _ => absurd rfl h
  | [y], [], _, h => absurd rfl h
  | [y], z :: r, _, _ => rfl
  | y :: z :: q, r, _, hr => by
    have ih := jl_app (q := z :: q) (r := r) (by simp) hr
    show tl y ++ ([47] ++ jl (z :: q ++ r)) = (tl y ++ ([47] ++ jl (z :: q))) ++ 47 :: jl r
    rw [ih]
    simp
theorem jl_ne {p : List Str} (hp : Nms p) (h : p ≠ []) : jl p ≠ [] := by
  match p, h with
  | y :: r, _ =>
    intro e
    have hy := nm_ne (hp y List.mem_cons_self)
    cases r with
    | nil => exact hy e
    | cons z r =>
      have e2 : tl y ++ ([47] ++ jl (z :: r)) = [] := e
      exact hy (List.append_eq_nil_iff.mp e2).1
theorem split_js {p : List Str} (hp : Nms p) (h : p ≠ []) : Txt.split (js p) "/" = p :=
  split_join (s := 47) (S := []) tl_sl (by decide +kernel) h fun y hy => nm_free (hp y hy)
theorem js_one (y : Str) : js [y] = y := ext_tl (by rw [tl_js]; rfl)
theorem js_ne {p : List Str} (hp : Nms p) (h : p ≠ []) : js p ≠ "" := fun e => by
  have e2 := congrArg tl e
  rw [tl_js] at e2
  exact jl_ne hp h e2
theorem js_inj {p q : List Str} (hp : Nms p) (hq : Nms q) (e : js p = js q) : p = q := by
  by_cases h1 : p = []
  · by_cases h2 : q = []
    · rw [h1, h2]
    · rw [h1] at e
      exact absurd e.symm (js_ne hq h2)
  · by_cases h2 : q = []
    · rw [h2] at e
      exact absurd e (js_ne hp h1)
    · rw [← split_js hp h1, e, split_js hq h2]
def ben (p q : List Str) : Bool := q.isPrefixOf p && decide (q.length < p.length)
theorem ben_iff {p q : List Str} : ben p q = true ↔ ∃ r, r ≠ [] ∧ p = q ++ r := by
  unfold ben
  rw [Bool.and_eq_true, List.isPrefixOf_iff_prefix, decide_eq_true_iff]
  constructor
  · rintro ⟨⟨r, rfl⟩, h⟩
    refine ⟨r, ?_, rfl⟩
    rintro rfl
    simp at h
  · rintro ⟨r, hr, rfl⟩
    refine ⟨⟨r, rfl⟩, ?_⟩
    have := List.length_pos_iff.mpr hr
    rw [List.length_append]
    omega
theorem spl_ne (S : List Nat) : ∀ (k : Nat) (acc l : List Nat), spl S k acc l ≠ []
  | k, acc, [] => by
    rw [spl_nil]
    simp
  | 0, acc, c :: r => by
    unfold spl
    by_cases h : pre S (c :: r) = true
    · rw [if_pos h]
      simp
    · rw [if_neg h]
      exact spl_ne S 0 _ r
  | k + 1, acc, _ :: r => spl_ne S k acc r
theorem spl_pre : ∀ {q : List Str} {t : List Nat}, q ≠ [] → Nms q → spl [47] 0 [] (jl q ++ 47 :: t) = q.map tl ++ spl [47] 0 [] t
  | [], _, h, _ => absurd rfl h
  | [y], t, _, hq => by
    have e := spl_part1 (s := 47) (S := []) (acc := []) (p := tl y) (rest := t) (nm_free (hq y List.mem_cons_self))
    exact e
  | y :: z :: r, t, _, hq => by
    have e := spl_part1 (s := 47) (S := []) (acc := []) (p := tl y) (rest := jl (z :: r) ++ 47 :: t) (nm_free (hq y List.mem_cons_self))
    have ih := spl_pre (q := z :: r) (t := t) (by simp) hq.tail
    have e2 : jl (y :: z :: r) ++ 47 :: t = tl y ++ ([47] ++ (jl (z :: r) ++ 47 :: t)) := by
      show tl y ++ ([47] ++ jl (z :: r)) ++ 47 :: t = _
      simp
    rw [e2]
    refine e.trans ?_
    rw [ih]
    rfl
theorem spl_js {p : List Str} (hp : Nms p) (h : p ≠ []) : spl [47] 0 [] (jl p) = p.map tl :=
  spl_join (s := 47) (S := []) (by simpa using h) fun z hz => by
    obtain ⟨y, hy, rfl⟩ := List.mem_map.mp hz
    exact nm_free (hp y hy)
theorem under {p q : List Str} (hp : Nms p) (hq : Nms q) (h : q ≠ []) : (jl q ++ [47]) <+: jl p ↔ ben p q = true := by
  rw [ben_iff]
  constructor
  · rintro ⟨t, e⟩
    have e1 : jl p = jl q ++ 47 :: t := by
      rw [← e]
      simp
    have hp0 : p ≠ [] := by
      rintro rfl
      have : ([] : List Nat) = jl q ++ 47 :: t := e1
      simp at this
    have e2 := spl_js hp hp0
    rw [e1, spl_pre h hq] at e2
    have e3 : (p.take q.length).map tl = q.map tl := by
      rw [List.map_take, ← e2]
      rw [show q.length = (q.map tl).length by rw [List.length_map], List.take_left']
      rfl
    have e4 := map_tl_inj e3
    refine ⟨p.drop q.length, ?_, ?_⟩
    · intro z
      have z2 : p.length ≤ q.length := List.drop_eq_nil_iff.mp z
      have z3 := congrArg List.length e2
      rw [List.length_append, List.length_map, List.length_map] at z3
      have z4 := List.length_pos_iff.mpr (spl_ne [47] 0 [] t)
      omega
    · conv => lhs; rw [← List.take_append_drop q.length p]
      rw [e4]
  · rintro ⟨r, hr, rfl⟩
    rw [jl_app h hr]
    exact ⟨jl r, by simp⟩
end T5

set_option maxHeartbeats 3900000
namespace T5
open PySem PySem.Spec PyProof.Rows L2 TL
theorem js_cons (y : Str) {r : List Str} (h : r ≠ []) : js (y :: r) = y ++ "/" ++ js r := by
  refine ext_tl ?_
  rw [tl_js, tl_append, tl_append, tl_js, tl_sl]
  show jl ([y] ++ r) = _
  rw [jl_app (by simp) h]
  show tl y ++ 47 :: jl r = _
  simp
def ent (n : Str) (b : Bool) : Str := if b = true then n ++ "/" else n
theorem tl_ent (n : Str) (b : Bool) : tl (ent n b) = tl n ++ if b = true then [47] else [] := by
  unfold ent
  cases b
  · simp
  · rw [if_pos rfl, tl_append, tl_sl, if_pos rfl]
theorem ent_inj {n m : Str} {b c : Bool} (hn : IsNm n) (hm : IsNm m) (e : ent n b = ent m c) : n = m ∧ b = c := by
  have h := congrArg tl e
  rw [tl_ent, tl_ent] at h
  cases b <;> cases c
  · simp only [Bool.false_eq_true, if_false, List.append_nil] at h
    exact ⟨ext_tl h, rfl⟩
  · simp only [Bool.false_eq_true, if_false, List.append_nil, if_true] at h
    exact absurd (by rw [h]; simp) (nm_free hn)
  · simp only [Bool.false_eq_true, if_false, List.append_nil, if_true] at h
    exact absurd (by rw [← h]; simp) (nm_free hm)
  · simp only [if_true] at h
    exact ⟨ext_tl (List.append_cancel_right h), rfl⟩
theorem ew (x y : Str) : Txt.endswith x y = (decide ((tl y).length ≤ (tl x).length) && decide ((tl x).drop ((tl x).length - (tl y).length) = tl y)) := by
  show (decide (0 + y.length ≤ x.length) && Builtin.Str.subAt x y (x.length - y.length)) = _
  rw [PySem.StrLaws.subAt_eq, len_tl, len_tl, Nat.zero_add]
  by_cases h : (tl y).length ≤ (tl x).length
  · rw [decide_eq_true h, Bool.true_and, Bool.true_and]
    have e : (((tl x).drop ((tl x).length - (tl y).length)).take (tl y).length) = (tl x).drop ((tl x).length - (tl y).length) := List.take_of_length_le (by rw [List.length_drop]; omega)
    have e5 : (((tl x).drop ((tl x).length - (tl y).length)).take (tl y).length == tl y) = ((tl x).drop ((tl x).length - (tl y).length) == tl y) := by rw [e]
    refine e5.trans ?_
    apply Bool.eq_iff_iff.mpr
    rw [beq_iff_eq, decide_eq_true_iff]
  · rw [decide_eq_false h]
    rfl
theorem last_drop (u : List Nat) (c : Nat) : (u ++ [c]).drop ((u ++ [c]).length - 1) = [c] := by
  rw [show (u ++ [c]).length - 1 = u.length by simp, List.drop_left']
  rfl
theorem last_free {u : List Nat} (h : 47 ∉ u) : u.drop (u.length - 1) ≠ [47] := fun e => h (by
  have : 47 ∈ u.drop (u.length - 1) := by
    rw [e]
    simp
  exact List.mem_of_mem_drop this)
theorem ew_ent {n : Str} (hn : IsNm n) (b : Bool) : Txt.endswith (ent n b) "/" = b := by
  rw [ew, tl_sl, tl_ent]
  cases b
  · simp only [Bool.false_eq_true, if_false, List.append_nil]
    rw [decide_eq_false (p := (tl n).drop ((tl n).length - [47].length) = [47]) (last_free (nm_free hn)), Bool.and_false]
  · simp only [if_true]
    rw [decide_eq_true (by simp), Bool.true_and]
    exact decide_eq_true (last_drop _ _)
theorem tl_sub (x : Str) (i j : Nat) : tl (Builtin.Str.strSub x i j) = ((tl x).drop i).take (j - i) := tl_strSub x i j
theorem rms {x y : Str} (h : Txt.endswith x y = true) : tl (Txt.removesuffix x y) = (tl x).take ((tl x).length - (tl y).length) := by
  have h2 : (decide (y.length ≤ x.length) && Builtin.Str.subAt x y (x.length - y.length)) = true := by
    rw [← h]
    show _ = (decide (0 + y.length ≤ x.length) && Builtin.Str.subAt x y (x.length - y.length))
    rw [Nat.zero_add]
  show tl (Txt.affix x (if (decide (y.length ≤ x.length) && Builtin.Str.subAt x y (x.length - y.length)) = true then some (0, x.length - y.length) else none)) = _
  rw [if_pos h2]
  show tl (if x.length - y.length - 0 == x.length then x else Builtin.Str.strSub x 0 (x.length - y.length)) = _
  rw [len_tl, len_tl]
  by_cases e : ((tl x).length - (tl y).length - 0 == (tl x).length) = true
  · rw [if_pos e]
    rw [beq_iff_eq] at e
    rw [List.take_of_length_le (by omega)]
  · rw [if_neg e, tl_sub, List.drop_zero]
    rfl
theorem rms_no {x y : Str} (h : Txt.endswith x y = false) : Txt.removesuffix x y = x := by
  have h2 : (decide (y.length ≤ x.length) && Builtin.Str.subAt x y (x.length - y.length)) = false := by
    rw [← h]
    show _ = (decide (0 + y.length ≤ x.length) && Builtin.Str.subAt x y (x.length - y.length))
    rw [Nat.zero_add]
  show Txt.affix x (if (decide (y.length ≤ x.length) && Builtin.Str.subAt x y (x.length - y.length)) = true then some (0, x.length - y.length) else none) = _
  rw [if_neg (by rw [h2]; simp)]
  rfl
theorem rms_ent {n : Str} (hn : IsNm n) (b : Bool) : Txt.removesuffix (ent n b) "/" = n := by
  cases b
  · exact rms_no (ew_ent hn false)
  · refine ext_tl ?_
    rw [rms (ew_ent hn true), tl_ent, tl_sl]
    simp
end T5

set_option maxHeartbeats 3900000
namespace T5
open PySem PySem.Spec PyProof.Rows L2 TL
open C8 (pss_cut tCut pe_gc)
open CB
abbrev sIsName : Stmt := top 9
abbrev sIsPath : Stmt := top 10
abbrev sIsPlace : Stmt := top 11
def Sh (z : Str) : Prop := z.length ≤ 1000
theorem Sh.line {z : Str} (h : Sh z) : z.length ≤ sizeLine := Nat.le_trans h (by decide)
theorem js_len : ∀ {p : List Str}, Nms p → (js p).length ≤ 9 * p.length
  | [], _ => Nat.le_of_eq rfl
  | [y], h => by
    rw [js_one]
    have := (h y List.mem_cons_self).2.1
    show y.length ≤ 9
    omega
  | y :: z :: r, h => by
    have ih := js_len (p := z :: r) h.tail
    have := (h y List.mem_cons_self).2.1
    rw [js_cons y (by simp), len_tl, tl_append, tl_append, List.length_append, List.length_append, tl_sl, ← len_tl, ← len_tl]
    show y.length + 1 + (js (z :: r)).length ≤ _
    rw [List.length_cons (a := y)]
    omega
theorem js_sh {p : List Str} (h : Nms p) (hl : p.length ≤ 100) : Sh (js p) := by
  have := js_len h
  unfold Sh
  omega
theorem nm_sh {y : Str} (h : IsNm y) : Sh y := by
  have := h.2.1
  unfold Sh
  omega
structure TPk (mg : Str → Option Value) : Prop where
  b : TB mg
  STROKE : ∃ t, mg "STROKE" = some (.str "/" t)
  ROOT : ∃ t, mg "ROOT" = some (.str "" t)
  LETTERS : ∃ t, mg "LETTERS" = some (.str letters t)
  LONGEST : ∃ t, mg "LONGEST" = some (.int 8 t)
def spS1 (C : Str → Prop) (g : Str → V) : Sp := fun vs H Q _ => ∃ z, vs = [.str z] ∧ C z ∧ ∀ H', Same H H' → Q (g z) H'
abbrev spIsName : Sp := spS1 Sh fun z => .bl (decide (IsNm z))
def spIsPath : Sp := fun vs H Q _ => ∃ p, vs = [.str (js p)] ∧ Nms p ∧ p.length ≤ 100 ∧ ∀ H', Same H H' → Q (.bl (decide (p ≠ []))) H'
def spIsPlace : Sp := fun vs H Q _ => ∃ p, vs = [.str (js p)] ∧ Nms p ∧ p.length ≤ 100 ∧ ∀ H', Same H H' → Q (.bl true) H'
theorem isNm_eq (z : Str) : decide (IsNm z) = (decide (1 ≤ z.length) && decide (z.length ≤ 8) && (tl z).all fun c => decide (c ∈ letters.cps.toList)) := by
  apply Bool.eq_iff_iff.mpr
  rw [decide_eq_true_iff, Bool.and_eq_true, Bool.and_eq_true, decide_eq_true_iff, decide_eq_true_iff, List.all_eq_true]
  constructor
  · rintro ⟨h1, h2, h3⟩
    refine ⟨⟨h1, h2⟩, fun c hc => decide_eq_true ?_⟩
    obtain ⟨a, b⟩ := h3 c hc
    have := letter_at (c - 97) (by omega)
    rw [show 97 + (c - 97) = c by omega] at this
    exact List.mem_of_getElem? this
  · rintro ⟨⟨h1, h2⟩, h3⟩
    exact ⟨h1, h2, fun c hc => letters_all c (of_decide_eq_true (h3 c hc))⟩
section
variable {P : Program} {w : World} {K : PySem.W.Frag} {mg : Str → Option Value} {base : Heap}
theorem scIsName : FnScope ["thing", "letter"] ["thing"] (defScope sIsName) := ⟨rfl, rfl, rfl, by decide +kernel, rfl, by decide +kernel, by decide +kernel⟩
theorem ok_isName {f : Addr} {fd : FuncData} (F : Fun K "is_name" "is_name" sIsName f fd) (T0 : TPk mg) : FnOk P w K mg base CX0 1 f fd ["thing"] spIsName := by
  have T := T0.b
  obtain ⟨t1, mLETTERS⟩ := T0.LETTERS
  obtain ⟨t2, mLONGEST⟩ := T0.LONGEST
  refine F.ok scIsName (fun vs H Q E h => ?_) (fun cdv A outer s H vs Q E hr h => ?_)
  · obtain ⟨z, rfl, _⟩ := h
    rfl
  · obtain ⟨z, rfl, hz, k⟩ := h
    refine ⟨_, pss_cons (ps_if (PW.pt (pw_or (pt_not (pt_val (pe_callB call_isi (by rfl) T.isinstance (by decide +kernel) (pa_cons (pv 0) (pa_cons (pe_bltn (v := .ty "str") (by rfl) T.str (by decide +kernel) rfl) pa_nil))))) (pw_or1 (pt_not (pt_chain op_le op_le pe_int (pe_callB call_len_str (by rfl) T.len PySem.boot_len (pa_cons (pv 0) pa_nil)) (pe_glob (v := .int 8) rfl mLONGEST ⟨_, rfl⟩)))))) (pss_one (ps_ret pe_bl)) (pss_nil))
        (pss_one (ps_ret (pe_callB (cr_all rfl) (by rfl) T.all boot_all (pa_cons (pe_lc (own := [("letter", 1)]) (g := gName 1) (tt := tYes) rfl scIsName.nd (pi_str (pv 0)) (blkOk_by (own := [("letter", 1)]) (N := ["thing", "letter"]) (sc := defScope sIsName) (by decide +kernel)) (fun _ _ _ _ _ => (pg_name (i := 1) scIsName.nd rfl (Or.inl rfl))) (fun _ _ _ _ _ => pts_nil) (fun _ _ _ _ _ => (pe_cmpR op_in_sign (pv 1) (pe_glob (v := .str letters) rfl mLETTERS ⟨_, rfl⟩) (by rfl)))) pa_nil)))), ?_⟩
    refine ⟨_, rfl, _, _, .type "str", .type "str", true, rfl, .ty "str", .base (.str _), kit_ty (by decide +kernel), _, rfl, iteF ⟨_, rfl, _, rfl, hz.line, _, _, rfl, rfl, _, rfl, ?_⟩⟩
    have k : ∀ H', Same H H' → Q (.bl (decide (IsNm z))) H' := k
    rw [isNm_eq] at k
    by_cases h1 : 1 ≤ z.length
    · rw [decide_eq_true (show (1 : Int) ≤ (z.length : Int) by omega)]
      rw [decide_eq_true h1, Bool.true_and] at k
      refine iteT ⟨_, _, rfl, rfl, _, rfl, ?_⟩
      by_cases h8 : z.length ≤ 8
      · rw [decide_eq_true (show ((z.length : Nat) : Int) ≤ (8 : Int) by omega)]
        rw [decide_eq_true h8, Bool.true_and] at k
        refine iteF ⟨_, rfl, z, rfl, fun D hD => ?_⟩
        refine lc_mapS z (fun c => .bl (decide (c ∈ letters.cps.toList))) (by omega) hD ?_ ?_
        · intro c hc H2 s2 Q1 k1
          exact ⟨_, rfl, c, letters, rfl, rfl, k1 H2 (Same.refl H2)⟩
        · intro H' s' hD'
          exact all_of _ _ hD' (k H' s')
      · rw [decide_eq_false (show ¬ ((z.length : Nat) : Int) ≤ (8 : Int) by omega)]
        rw [decide_eq_false h8, Bool.false_and] at k
        exact iteT (k H (Same.refl H))
    · rw [decide_eq_false (show ¬ (1 : Int) ≤ (z.length : Int) by omega)]
      rw [decide_eq_false h1, Bool.false_and, Bool.false_and] at k
      exact iteF ⟨_, rfl, iteT (k H (Same.refl H))⟩
theorem scIsPath : FnScope ["thing", "part"] ["thing"] (defScope sIsPath) := ⟨rfl, rfl, rfl, by decide +kernel, rfl, by decide +kernel, by decide +kernel⟩
theorem ok_isPath {f fN : Addr} {fd fdN : FuncData} (F : Fun K "is_path" "is_path" sIsPath f fd) (T0 : TPk mg) (aIsName : At K mg "is_name" fN fdN ["thing"]) (GIsName : FnOk P w K mg base CX0 1 fN fdN ["thing"] spIsName) : FnOk P w K mg base CX0 2 f fd ["thing"] spIsPath := by
  have T := T0.b
  obtain ⟨t1, mSTROKE⟩ := T0.STROKE
  refine F.ok scIsPath (fun vs H Q E h => ?_) (fun cdv A outer s H vs Q E hr h => ?_)
  · obtain ⟨z, rfl, _⟩ := h
    rfl
  · obtain ⟨p, rfl, hp, hl, k⟩ := h
    refine ⟨_, pss_one (ps_ret (pe_and (pe_callB call_isi (by rfl) T.isinstance (by decide +kernel) (pa_cons (pv 0) (pa_cons (pe_bltn (v := .ty "str") (by rfl) T.str (by decide +kernel) rfl) pa_nil))) (pe_one (pe_callB (cr_all rfl) (by rfl) T.all boot_all (pa_cons (pe_lc (own := [("part", 1)]) (g := gName 1) (tt := tYes) rfl scIsPath.nd (pi_list (pe_bm PySem.F.plainAttrs_str PySem.F.slot_str_split PySem.F.type_str_split mt_split (pv 0) (pa_cons (pe_glob (v := .str "/") rfl mSTROKE ⟨_, rfl⟩) pa_nil))) (blkOk_by (own := [("part", 1)]) (N := ["thing", "part"]) (sc := defScope sIsPath) (by decide +kernel)) (fun _ _ _ _ _ => (pg_name (i := 1) scIsPath.nd rfl (Or.inl rfl))) (fun _ _ _ _ _ => pts_nil) (fun _ _ _ _ _ => (pe_call GIsName (hr.mono (by decide)) rfl aIsName.m aIsName.k aIsName.b .nil pass0 (pa_cons (pv 1) pa_nil)))) pa_nil))))), ?_⟩
    have hs := js_sh hp hl
    obtain ⟨ys, e1, e2, e3⟩ : ∃ ys, Txt.split (js p) "/" = ys ∧ (∀ y ∈ ys, Sh y) ∧ (ys.length < 1000000 ∧ ys.all (fun y => decide (IsNm y)) = decide (p ≠ [])) := by
      by_cases h : p = []
      · subst h
        refine ⟨[""], by decide +kernel, ?_, by decide, by decide +kernel⟩
        intro y hy
        rw [List.mem_singleton.mp hy]
        exact Nat.zero_le _
      · refine ⟨p, split_js hp h, fun y hy => nm_sh (hp y hy), by omega, ?_⟩
        rw [decide_eq_true h, List.all_eq_true]
        exact fun y hy => decide_eq_true (hp y hy)
    refine ⟨_, rfl, _, _, .type "str", .type "str", true, rfl, .ty "str", .base (.str _), kit_ty (by decide +kernel), true, rfl, iteT ⟨_, rfl, rfl, js p, "/", rfl, rfl, rfl, ?_, fun l hl' => ⟨l, rfl, ⟨_, SqL.of upd_same⟩, fun D hD => ?_⟩⟩⟩
    · have := hs
      unfold Sh at this
      exact Nat.le_trans (show (js p).length + 2 ≤ 1002 by omega) (by decide)
    · rw [e1] at hD ⊢
      have s1 : Same H (upd H l (.lst (ys.map V.str))) := same_mk hl'
      refine lc_mapL ys V.str (fun y => .bl (decide (IsNm y))) e3.1 hD (SqL.of upd_same) ?_ ?_
      · intro y hy H2 s2 Q1 k1
        exact ⟨_, rfl, y, rfl, e2 y hy, k1⟩
      · intro H' s' hD'
        refine all_of _ _ hD' ?_
        rw [e3.2]
        exact k H' (s1.trans s')
theorem scIsPlace : FnScope ["thing"] ["thing"] (defScope sIsPlace) := ⟨rfl, rfl, rfl, by decide +kernel, rfl, by decide +kernel, by decide +kernel⟩
theorem ok_isPlace {f fN : Addr} {fd fdN : FuncData} (F : Fun K "is_place" "is_place" sIsPlace f fd) (T0 : TPk mg) (aIsPath : At K mg "is_path" fN fdN ["thing"]) (GIsPath : FnOk P w K mg base CX0 2 fN fdN ["thing"] spIsPath) : FnOk P w K mg base CX0 3 f fd ["thing"] spIsPlace := by
  have T := T0.b
  obtain ⟨t1, mROOT⟩ := T0.ROOT
  refine F.ok scIsPlace (fun vs H Q E h => ?_) (fun cdv A outer s H vs Q E hr h => ?_)
  · obtain ⟨z, rfl, _⟩ := h
    rfl
  · obtain ⟨p, rfl, hp, hl, k⟩ := h
    refine ⟨_, pss_one (ps_ret (pe_or (pe_call GIsPath (hr.mono (by decide)) rfl aIsPath.m aIsPath.k aIsPath.b .nil pass0 (pa_cons (pv 0) pa_nil)) (pe_one (pe_and (pe_callB call_isi (by rfl) T.isinstance (by decide +kernel) (pa_cons (pv 0) (pa_cons (pe_bltn (v := .ty "str") (by rfl) T.str (by decide +kernel) rfl) pa_nil))) (pe_one (pe_cmpR op_eq (pv 0) (pe_glob (v := .str "") rfl mROOT ⟨_, rfl⟩) (nomark _))))))), ?_⟩
    refine ⟨_, rfl, p, rfl, hp, hl, fun H1 s1 => ⟨_, rfl, ?_⟩⟩
    by_cases h : p = []
    · rw [decide_eq_false (not_not_intro h)]
      subst h
      exact iteF ⟨_, rfl, _, _, .type "str", .type "str", true, rfl, .ty "str", .base (.str _), kit_ty (by decide +kernel), _, rfl, iteT ⟨_, rfl, rfl, k H1 s1⟩⟩
    · rw [decide_eq_true h]
      exact iteT (k H1 s1)
end
end T5

set_option maxHeartbeats 3900000
namespace T5
open PySem PySem.Spec PyProof.Rows L2 TL
open C8 (pss_cut tCut pe_gc)
open CB
abbrev sRow : Stmt := top 13
abbrev sAsLook : Stmt := top 14
abbrev sCanLook : Stmt := top 15
abbrev sCanShow : Stmt := top 16
abbrev sIsListing : Stmt := top 17
abbrev sIsEntry : Stmt := top 18
abbrev sAsSight : Stmt := top 19
inductive An
  | no
  | tx (z : Str)
  | es (l : List (Str × Bool))
deriving DecidableEq
def entV (e : Str × Bool) : V := .str (ent e.1 e.2)
def AnIn (H : Hp) (v : V) : An → Prop
  | .no => v = .non
  | .tx z => v = .str z
  | .es l => RowAt H v (l.map entV)
def AnAt (H : Hp) (v : V) : An → Prop
  | .no => v = .non
  | .tx z => v = .str z
  | .es l => ∃ a, v = .ref a ∧ H a = some (.tup (l.map entV))
def SiIn (H : Hp) (v : V) (s : Lk × An) : Prop := ∃ vk va, RowAt H v [vk, va] ∧ RowAt H vk (lkV s.1) ∧ AnIn H va s.2
def SiAt (H : Hp) (v : V) (s : Lk × An) : Prop := ∃ t u va, v = .ref t ∧ H t = some (.tup [.ref u, va]) ∧ H u = some (.tup (lkV s.1)) ∧ AnAt H va s.2
theorem AnIn.up {H H' : Hp} {v : V} {a : An} (h : AnIn H v a) (s : Same H H') : AnIn H' v a := by
  cases a with
  | no => exact h
  | tx z => exact h
  | es l => exact RowAt.up h s
theorem AnAt.up {H H' : Hp} {v : V} {a : An} (h : AnAt H v a) (s : Same H H') : AnAt H' v a := by
  cases a with
  | no => exact h
  | tx z => exact h
  | es l =>
    obtain ⟨a, e, h⟩ := h
    exact ⟨a, e, s _ _ h⟩
theorem AnAt.in {H : Hp} {v : V} {a : An} (h : AnAt H v a) : AnIn H v a := by
  cases a with
  | no => exact h
  | tx z => exact h
  | es l =>
    obtain ⟨a, e, h⟩ := h
    exact ⟨a, e, .inl h⟩
theorem SiAt.up {H H' : Hp} {v : V} {a : Lk × An} (h : SiAt H v a) (s : Same H H') : SiAt H' v a := by
  obtain ⟨t, u, va, e, h1, h2, h3⟩ := h
  exact ⟨t, u, va, e, s _ _ h1, s _ _ h2, h3.up s⟩
theorem SiIn.up {H H' : Hp} {v : V} {a : Lk × An} (h : SiIn H v a) (s : Same H H') : SiIn H' v a := by
  obtain ⟨vk, va, h1, h2, h3⟩ := h
  exact ⟨vk, va, h1.up s, h2.up s, h3.up s⟩
theorem SiAt.in {H : Hp} {v : V} {a : Lk × An} (h : SiAt H v a) : SiIn H v a := by
  obtain ⟨t, u, va, e, h1, h2, h3⟩ := h
  exact ⟨.ref u, va, ⟨t, e, .inl h1⟩, ⟨u, rfl, .inl h2⟩, h3.in⟩
def LkOk : Lk → Prop
  | .rd p => p ≠ [] ∧ Nms p ∧ p.length ≤ 90
  | .ls p => Nms p ∧ p.length ≤ 90
  | .se n => IsNm n
  | .tl => True
def Ents (l : List (Str × Bool)) : Prop := (∀ e ∈ l, IsNm e.1) ∧ (l.map (·.1)).Pairwise (fun a b : Str => a.cps.toList < b.cps.toList) ∧ l.length ≤ 1000
def AnOk : Lk → An → Prop
  | .rd _, .no => True
  | .rd _, .tx _ => True
  | .ls p, .no => p ≠ []
  | .ls p, .es l => Ents l ∧ (l ≠ [] ∨ p = [])
  | .se _, .no => True
  | .se _, .tx _ => True
  | .tl, .tx _ => True
  | _, _ => False
def SiOk (s : Lk × An) : Prop := LkOk s.1 ∧ AnOk s.1 s.2
def spRow : Sp := fun vs H Q _ => ∃ v xs n, vs = [v, .int n] ∧ RowAt H v xs ∧ ∀ H', Same H H' → Q (.bl (decide ((xs.length : Int) = n))) H'
def spAsLook : Sp := fun vs H Q _ => ∃ v k, vs = [v] ∧ RowAt H v (lkV k) ∧ LkOk k ∧ ∀ t H', Same H H' → H' t = some (.tup (lkV k)) → Q (.ref t) H'
def spCanLook : Sp := fun vs H Q _ => ∃ k, vs = lkV k ∧ vs.length = 2 ∧ LkOk k ∧ ∀ H', Same H H' → Q (.bl true) H'
def spCanShow : Sp := fun vs H Q _ => ∃ t va k a, vs = [.ref t, va] ∧ H t = some (.tup (lkV k)) ∧ AnIn H va a ∧ LkOk k ∧ AnOk k a ∧ ∀ H', Same H H' → Q (.bl true) H'
def spIsListing : Sp := fun vs H Q _ => ∃ v l, vs = [v] ∧ RowAt H v (l.map entV) ∧ Ents l ∧ ∀ H', Same H H' → Q (.bl true) H'
def spIsEntry : Sp := fun vs H Q _ => ∃ n b, vs = [.str (ent n b)] ∧ IsNm n ∧ ∀ H', Same H H' → Q (.bl true) H'
def spAsSight : Sp := fun vs H Q _ => ∃ v s, vs = [v] ∧ SiIn H v s ∧ SiOk s ∧ ∀ v' H', Same H H' → SiAt H' v' s → Q v' H'
section
variable {P : Program} {w : World} {K : PySem.W.Frag} {mg : Str → Option Value} {base : Heap}
theorem scRow : FnScope ["thing", "size"] ["thing", "size"] (defScope sRow) := ⟨rfl, rfl, rfl, by decide +kernel, rfl, by decide +kernel, by decide +kernel⟩
theorem ok_row {f : Addr} {fd : FuncData} (F : Fun K "is_row" "is_row" sRow f fd) (T : TB mg) : FnOk P w K mg base CX0 1 f fd ["thing", "size"] spRow := by
  refine F.ok scRow (fun vs H Q E h => ?_) (fun cdv A outer s H vs Q E hr h => ?_)
  · obtain ⟨v, xs, n, rfl, _⟩ := h
    rfl
  · obtain ⟨v, xs, n, rfl, hv, k⟩ := h
    refine ⟨_, pss_one (ps_ret (pe_and (pe_callB isi_LT (by rfl) T.isinstance (by decide +kernel) (pa_cons (pv 0) (pa_cons (pe_tup (pa_cons (pe_bltn (v := .ty "list") (by rfl) T.list (by decide +kernel) rfl) (pa_cons (pe_bltn (v := .ty "tuple") (by rfl) T.tuple (by decide +kernel) rfl) pa_nil))) pa_nil))) (pe_one (pe_cmpR op_eq (pe_callB call_len_row (by rfl) T.len PySem.boot_len (pa_cons (pv 0) pa_nil)) (pv 1) (nomark _))))), ?_⟩
    refine ⟨_, rfl, by show 2 ≤ sizeLine; decide, fun tp ht => ⟨v, tp, true, rfl, upd_same, .inl ⟨rfl, xs, hv.up (same_mk ht)⟩, _, rfl, iteT ⟨_, rfl, v, xs, rfl, hv.up (same_mk ht), _, rfl, rfl, ?_⟩⟩⟩
    have e : decide (V.int (xs.length : Int) = V.int n) = decide ((xs.length : Int) = n) := by
      rw [decide_eq_decide]
      exact ⟨fun z => V.int.inj z, fun z => by rw [z]⟩
    rw [e]
    exact k _ (same_mk ht)
theorem scIsEntry : FnScope ["thing"] ["thing"] (defScope sIsEntry) := ⟨rfl, rfl, rfl, by decide +kernel, rfl, by decide +kernel, by decide +kernel⟩
theorem ok_isEntry {f fN : Addr} {fd fdN : FuncData} (F : Fun K "is_entry" "is_entry" sIsEntry f fd) (T0 : TPk mg) (aIsName : At K mg "is_name" fN fdN ["thing"]) (GIsName : FnOk P w K mg base CX0 1 fN fdN ["thing"] spIsName) : FnOk P w K mg base CX0 2 f fd ["thing"] spIsEntry := by
  have T := T0.b
  obtain ⟨t1, mSTROKE⟩ := T0.STROKE
  refine F.ok scIsEntry (fun vs H Q E h => ?_) (fun cdv A outer s H vs Q E hr h => ?_)
  · obtain ⟨n, b, rfl, _⟩ := h
    rfl
  · obtain ⟨n, b, rfl, hn, k⟩ := h
    refine ⟨_, pss_one (ps_ret (pe_and (pe_callB call_isi (by rfl) T.isinstance (by decide +kernel) (pa_cons (pv 0) (pa_cons (pe_bltn (v := .ty "str") (by rfl) T.str (by decide +kernel) rfl) pa_nil))) (pe_one (pe_call GIsName (hr.mono (by decide)) rfl aIsName.m aIsName.k aIsName.b .nil pass0 (pa_cons (pe_bm PySem.F.plainAttrs_str PySem.F.slot_str_removesuffix PySem.F.type_str_removesuffix mt_removesuffix (pv 0) (pa_cons (pe_glob (v := .str "/") rfl mSTROKE ⟨_, rfl⟩) pa_nil)) pa_nil))))), ?_⟩
    refine ⟨_, rfl, _, _, .type "str", .type "str", true, rfl, .ty "str", .base (.str _), kit_ty (by decide +kernel), _, rfl, iteT ⟨_, rfl, rfl, ent n b, "/", rfl, rfl, ?_, _, rfl, ?_, fun H1 s1 => ?_⟩⟩
    · have h8 := hn.2.1
      refine Nat.le_trans (show (ent n b).length ≤ 9 from ?_) (by decide)
      rw [len_tl, tl_ent, List.length_append, ← len_tl]
      cases b <;> simp <;> omega
    · rw [rms_ent hn]
      exact nm_sh hn
    · rw [rms_ent hn]
      show Q (.bl (decide (IsNm n))) H1
      rw [decide_eq_true hn]
      exact k H1 s1
theorem scCanLook : FnScope ["word", "where"] ["word", "where"] (defScope sCanLook) := ⟨rfl, rfl, rfl, by decide +kernel, rfl, by decide +kernel, by decide +kernel⟩
theorem ok_canLook {f fN fPh fPl : Addr} {fd fdN fdPh fdPl : FuncData} (F : Fun K "can_look" "can_look" sCanLook f fd) (T0 : TPk mg) (aIsName : At K mg "is_name" fN fdN ["thing"]) (aIsPath : At K mg "is_path" fPh fdPh ["thing"]) (aIsPlace : At K mg "is_place" fPl fdPl ["thing"])
    (GIsName : FnOk P w K mg base CX0 1 fN fdN ["thing"] spIsName) (GIsPath : FnOk P w K mg base CX0 2 fPh fdPh ["thing"] spIsPath) (GIsPlace : FnOk P w K mg base CX0 3 fPl fdPl ["thing"] spIsPlace) : FnOk P w K mg base CX0 4 f fd ["word", "where"] spCanLook := by
  have T := T0.b
  refine F.ok scCanLook (fun vs H Q E h => ?_) (fun cdv A outer s H vs Q E hr h => ?_)
  · obtain ⟨k, _, h2, _⟩ := h
    exact h2
  · obtain ⟨k, rfl, h2, hk, q⟩ := h
    refine ⟨_, pss_cons (ps_if (pt_not (pt_val (pe_callB call_isi (by rfl) T.isinstance (by decide +kernel) (pa_cons (pv 0) (pa_cons (pe_bltn (v := .ty "str") (by rfl) T.str (by decide +kernel) rfl) pa_nil))))) (pss_one (ps_ret pe_bl)) (pss_nil))
            (pss_cons (ps_if (pt_cmpR op_eq (pv 0) pe_str (nomark _)) (pss_one (ps_ret (pe_call GIsPath (hr.mono (by decide)) rfl aIsPath.m aIsPath.k aIsPath.b .nil pass0 (pa_cons (pv 1) pa_nil)))) (pss_nil))
            (pss_cons (ps_if (pt_cmpR op_eq (pv 0) pe_str (nomark _)) (pss_one (ps_ret (pe_call GIsPlace (hr.mono (by decide)) rfl aIsPlace.m aIsPlace.k aIsPlace.b .nil pass0 (pa_cons (pv 1) pa_nil)))) (pss_nil))
            (pss_one (ps_ret (pe_and (pe_cmpR op_eq (pv 0) pe_str (nomark _)) (pe_one (pe_call GIsName (hr.mono (by decide)) rfl aIsName.m aIsName.k aIsName.b .nil pass0 (pa_cons (pv 1) pa_nil)))))))), ?_⟩
    cases k with
    | rd p =>
      refine ⟨_, rfl, _, _, .type "str", .type "str", true, rfl, .ty "str", .base (.str _), kit_ty (by decide +kernel), _, rfl, iteF ⟨_, rfl, rfl, _, rfl, iteY rfl ⟨_, rfl, p, rfl, hk.2.1, Nat.le_trans hk.2.2 (by decide), fun H1 s1 => ?_⟩⟩⟩
      rw [decide_eq_true hk.1]
      exact q H1 s1
    | ls p =>
      exact ⟨_, rfl, _, _, .type "str", .type "str", true, rfl, .ty "str", .base (.str _), kit_ty (by decide +kernel), _, rfl, iteF ⟨_, rfl, rfl, _, rfl, iteN (by decide +kernel) ⟨_, rfl, rfl, _, rfl, iteY rfl ⟨_, rfl, p, rfl, hk.1, Nat.le_trans hk.2 (by decide), q⟩⟩⟩⟩
    | se n =>
      refine ⟨_, rfl, _, _, .type "str", .type "str", true, rfl, .ty "str", .base (.str _), kit_ty (by decide +kernel), _, rfl, iteF ⟨_, rfl, rfl, _, rfl, iteN (by decide +kernel) ⟨_, rfl, rfl, _, rfl, iteN (by decide +kernel) ⟨_, rfl, rfl, _, rfl, iteY rfl ⟨_, rfl, n, rfl, nm_sh hk, fun H1 s1 => ?_⟩⟩⟩⟩⟩
      show Q (.bl (decide (IsNm n))) H1
      rw [decide_eq_true (show IsNm n from hk)]
      exact q H1 s1
    | tl => exact absurd h2 (by decide)
theorem scAsLook : FnScope ["thing"] ["thing"] (defScope sAsLook) := ⟨rfl, rfl, rfl, by decide +kernel, rfl, by decide +kernel, by decide +kernel⟩
theorem ok_asLook {f fR fC : Addr} {fd fdR fdC : FuncData} (F : Fun K "as_look" "as_look" sAsLook f fd) (T : TB mg) (aRow : At K mg "is_row" fR fdR ["thing", "size"]) (aCanLook : At K mg "can_look" fC fdC ["word", "where"])
    (GRow : FnOk P w K mg base CX0 1 fR fdR ["thing", "size"] spRow) (GCanLook : FnOk P w K mg base CX0 4 fC fdC ["word", "where"] spCanLook) : FnOk P w K mg base CX0 5 f fd ["thing"] spAsLook := by
  refine F.ok scAsLook (fun vs H Q E h => ?_) (fun cdv A outer s H vs Q E hr h => ?_)
  · obtain ⟨v, k, rfl, _⟩ := h
    rfl
  · obtain ⟨v, k, rfl, hv, hk, q⟩ := h
    refine ⟨_, pss_cons (ps_if (PW.pt (pw_and (pt_val (pe_call GRow (hr.mono (by decide)) rfl aRow.m aRow.k aRow.b .nil pass0 (pa_cons (pv 0) (pa_cons pe_int pa_nil)))) (pw_and (pt_val (pe_callB call_isi (by rfl) T.isinstance (by decide +kernel) (pa_cons (pe_ix ix_row (pv 0) pe_int (fun _ _ => rfl)) (pa_cons (pe_bltn (v := .ty "str") (by rfl) T.str (by decide +kernel) rfl) pa_nil)))) (pw_and1 (pt_cmpR op_eq (pe_ix ix_row (pv 0) pe_int (fun _ _ => rfl)) pe_str (nomark _)))))) (pss_one (ps_ret (pe_tup (pa_cons pe_str pa_nil)))) (pss_nil))
            (pss_cons (ps_if (PW.pt (pw_and (pt_val (pe_call GRow (hr.mono (by decide)) rfl aRow.m aRow.k aRow.b .nil pass0 (pa_cons (pv 0) (pa_cons pe_int pa_nil)))) (pw_and1 (pt_val (pe_call GCanLook (hr.mono (by decide)) rfl aCanLook.m aCanLook.k aCanLook.b .nil pass0 (pa_cons (pe_ix ix_row (pv 0) pe_int (fun _ _ => rfl)) (pa_cons (pe_ix ix_row (pv 0) pe_int (fun _ _ => rfl)) pa_nil))))))) (pss_one (ps_ret (pe_tup (pa_cons (pe_ix ix_row (pv 0) pe_int (fun _ _ => rfl)) (pa_cons (pe_ix ix_row (pv 0) pe_int (fun _ _ => rfl)) pa_nil))))) (pss_nil))
            (pss_one (ps_ret pe_non))), ?_⟩
    have two : ∀ (x y : V), lkV k = [x, y] → ∃ Z : Prop, True := fun _ _ _ => ⟨True, trivial⟩
    by_cases e : k = .tl
    · subst e
      refine ⟨_, rfl, v, _, 1, rfl, hv, fun H1 s1 => ⟨_, rfl, iteY rfl ⟨_, rfl, _, 0, _, hv.up s1, rfl, atI_nat (j := 0) rfl, _, _, .type "str", .type "str", true, rfl, .ty "str", .base (.str _), kit_ty (by decide +kernel), _, rfl, iteT ⟨_, rfl, _, 0, _, hv.up s1, rfl, atI_nat (j := 0) rfl, rfl, _, rfl, iteY rfl ⟨by show 1 ≤ sizeLine; decide, fun t ht => ?_⟩⟩⟩⟩⟩
      exact q t _ (same_ch s1 (s1.free ht)) upd_same
    · obtain ⟨x, y, exy⟩ : ∃ x y, lkV k = [x, y] := by
        cases k with
        | tl => exact absurd rfl e
        | _ => exact ⟨_, _, rfl⟩
      rw [exy] at hv
      refine ⟨_, rfl, v, _, 1, rfl, hv, fun H1 s1 => ⟨_, rfl, iteN (by show ¬ ((2 : Nat) : Int) = 1; decide) ⟨_, rfl, v, _, 2, rfl, hv.up s1, fun H2 s2 => ⟨_, rfl, iteY rfl ?_⟩⟩⟩⟩
      have v2 := (hv.up s1).up s2
      refine ⟨_, rfl, _, 0, _, v2, rfl, atI_nat (j := 0) rfl, _, rfl, _, 1, _, v2, rfl, atI_nat (j := 1) rfl, k, exy.symm, rfl, hk, fun H3 s3 => ⟨_, rfl, iteT ?_⟩⟩
      have v3 := v2.up s3
      refine ⟨_, rfl, _, 0, _, v3, rfl, atI_nat (j := 0) rfl, _, rfl, _, 1, _, v3, rfl, atI_nat (j := 1) rfl, by show 2 ≤ sizeLine; decide, fun t ht => ?_⟩
      refine q t _ (same_ch ((s1.trans s2).trans s3) (((s1.trans s2).trans s3).free ht)) ?_
      rw [exy]
      exact upd_same
theorem scIsListing : FnScope ["thing", "names", "entry", "one", "other"] ["thing"] (defScope sIsListing) := ⟨rfl, rfl, rfl, by decide +kernel, rfl, by decide +kernel, by decide +kernel⟩
theorem ok_isListing {f fE : Addr} {fd fdE : FuncData} (F : Fun K "is_listing" "is_listing" sIsListing f fd) (T0 : TPk mg) (aIsEntry : At K mg "is_entry" fE fdE ["thing"]) (GIsEntry : FnOk P w K mg base CX0 2 fE fdE ["thing"] spIsEntry) : FnOk P w K mg base CX0 3 f fd ["thing"] spIsListing := by
  have T := T0.b
  obtain ⟨t1, mSTROKE⟩ := T0.STROKE
  refine F.ok scIsListing (fun vs H Q E h => ?_) (fun cdv A outer s H vs Q E hr h => ?_)
  · obtain ⟨v, l, rfl, _⟩ := h
    rfl
  · obtain ⟨v, l, rfl, hv, hl, k⟩ := h
    refine ⟨_, pss_cons (ps_if (PW.pt (pw_or (pt_not (pt_val (pe_callB isi_LT (by rfl) T.isinstance (by decide +kernel) (pa_cons (pv 0) (pa_cons (pe_tup (pa_cons (pe_bltn (v := .ty "list") (by rfl) T.list (by decide +kernel) rfl) (pa_cons (pe_bltn (v := .ty "tuple") (by rfl) T.tuple (by decide +kernel) rfl) pa_nil))) pa_nil))))) (pw_or1 (pt_not (pt_val (pe_callB (cr_all rfl) (by rfl) T.all boot_all (pa_cons (pe_lc (own := [("entry", 2)]) (g := gName 2) (tt := tYes) rfl scIsListing.nd (pi_seqv (pv 0)) (blkOk_by (own := [("entry", 2)]) (N := ["thing", "names", "entry", "one", "other"]) (sc := defScope sIsListing) (by decide +kernel)) (fun _ _ _ _ _ => (pg_name (i := 2) scIsListing.nd rfl (Or.inl rfl))) (fun _ _ _ _ _ => pts_nil) (fun _ _ _ _ _ => (by exact (pe_call GIsEntry (hr.mono (by decide)) rfl aIsEntry.m aIsEntry.k aIsEntry.b .nil pass0 (pa_cons (pv 2) pa_nil))))) pa_nil))))))) (pss_one (ps_ret pe_bl)) (pss_nil))
            (pss_cons (ps_setLc (i := 1) (own := [("entry", 2)]) (g := gName 2) (tt := tYes) rfl scIsListing.nd rfl rfl (sw_true rfl rfl rfl (by decide +kernel)) (pi_seqv (pv 0)) (blkOk_by (own := [("entry", 2)]) (N := ["thing", "names", "entry", "one", "other"]) (sc := defScope sIsListing) (by decide +kernel)) (fun _ _ _ _ _ => (pg_name (i := 2) scIsListing.nd rfl (Or.inl rfl))) (fun _ _ _ _ _ => pts_nil) (fun _ _ _ _ _ => (by exact (pe_bmK K rfl PySem.F.plainAttrs_str PySem.F.slot_str_removesuffix PySem.F.type_str_removesuffix mt_removesuffix (pv 2) (pa_cons (pe_glob (v := .str "/") rfl mSTROKE ⟨_, rfl⟩) pa_nil)))))
            (pss_one (ps_ret (pe_callB (cr_all rfl) (by rfl) T.all boot_all (pa_cons (pe_lc (own := [("one", 3), ("other", 4)]) (g := gTup K 2 (gCons (gName 3) (gCons (gName 4) gNil))) (tt := tYes) rfl scIsListing.nd (pi_zip (by rfl) T.zip (pa_cons (pv 1) (pa_cons (pe_slice sl_list (pv 1) (po_some pe_int) po_none) pa_nil))) (blkOk_by (own := [("one", 3), ("other", 4)]) (N := ["thing", "names", "entry", "one", "other"]) (sc := defScope sIsListing) (by decide +kernel)) (fun _ _ _ _ _ => (pg_tupK (K0 := K) rfl rfl (pgs_cons (pg_name (i := 3) scIsListing.nd rfl (Or.inl rfl)) (pgs_cons (pg_name (i := 4) scIsListing.nd rfl (Or.inl rfl)) pgs_nil)))) (fun _ _ _ _ _ => pts_nil) (fun _ _ _ _ _ => (by exact (pe_cmpR op_lt_str (pv 3) (pv 4) (nomark _))))) pa_nil))))), ?_⟩
    have hs : l.length < 1000000 := Nat.lt_of_le_of_lt hl.2.2 (by decide)
    have at1 : (l.all fun _ => true) = true := List.all_eq_true.mpr fun _ _ => rfl
    refine ⟨_, rfl, by show 2 ≤ sizeLine; decide, fun tp ht => ⟨v, tp, true, rfl, upd_same, .inl ⟨rfl, _, hv.up (same_mk ht)⟩, _, rfl, iteF ?_⟩⟩
    refine all_row l entV (fun _ => true) rfl (hv.up (same_mk ht)) hs ?_ ?_
    · intro e he H2 s2 Q1 k1
      exact ⟨_, rfl, e.1, e.2, rfl, hl.1 e he, k1⟩
    intro H1 s1
    rw [at1]
    refine ⟨_, rfl, iteF ?_⟩
    have sa := (same_mk ht).trans s1
    refine set_row l entV (fun e => .str e.1) rfl (hv.up sa) hs ?_ ?_
    · intro e he H2 s2 Q1 k1
      refine ⟨_, rfl, rfl, ent e.1 e.2, "/", rfl, rfl, ?_, ?_⟩
      · have h8 := (hl.1 e he).2.1
        refine Nat.le_trans (show (ent e.1 e.2).length ≤ 9 from ?_) (by decide)
        rw [len_tl, tl_ent, List.length_append, ← len_tl]
        cases e.2 <;> simp <;> omega
      · rw [rms_ent (hl.1 e he)]
        exact k1 H2 (Same.refl H2)
    intro D H2 s2 hD hD2
    refine ⟨_, rfl, _, rfl, 1, rfl, D, _, rfl, SqL.of hD2, fun p hp => ?_⟩
    have hD3 := same_mk (o := .lst (cutV (l.map fun e => V.str e.1) (some 1) none)) hp _ _ hD2
    refine ⟨D, p, _, _, rfl, SqL.of hD3, SqL.of upd_same, fun D2 hD2' => ?_⟩
    rw [cut_1] at hD2' ⊢
    rw [cut_1] at hD3
    have le : (List.replicate (min (l.map fun e => V.str e.1).length ((l.map fun e => V.str e.1).drop 1).length) (V.bl true)).length = min (l.map fun e => V.str e.1).length ((l.map fun e => V.str e.1).drop 1).length := List.length_replicate
    refine lcW2 (walk_zip rfl) (by decide) _ le ?_ hD2' (fun H' s' => ⟨s'.seq (SqL.of hD3), s'.seq (SqL.of upd_same)⟩) ?_ ?_
    · rw [List.length_map]
      omega
    · intro m x x' y H4 hy ex ex' s4 Q1 k1
      obtain ⟨e1, he1, rfl⟩ : ∃ e, l[m]? = some e ∧ x = .str e.1 := by
        rw [List.getElem?_map] at ex
        cases q : l[m]? with
        | none => rw [q] at ex; cases ex
        | some e => rw [q] at ex; cases ex; exact ⟨e, rfl, rfl⟩
      obtain ⟨e2, he2, rfl⟩ : ∃ e, l[m + 1]? = some e ∧ x' = .str e.1 := by
        rw [List.getElem?_drop, List.getElem?_map, Nat.add_comm] at ex'
        cases q : l[m + 1]? with
        | none => rw [q] at ex'; cases ex'
        | some e => rw [q] at ex'; cases ex'; exact ⟨e, rfl, rfl⟩
      have yt : y = .bl true := by
        have := List.mem_of_getElem? hy
        exact (List.mem_replicate.mp this).2
      subst yt
      refine ⟨_, rfl, _, rfl, e1.1, e2.1, rfl, rfl, ?_⟩
      have lt : e1.1.cps.toList < e2.1.cps.toList := by
        have pw := hl.2.1
        rw [List.pairwise_iff_getElem] at pw
        obtain ⟨h1, g1⟩ := List.getElem?_eq_some_iff.mp he1
        obtain ⟨h2, g2⟩ := List.getElem?_eq_some_iff.mp he2
        have := pw m (m + 1) (by rw [List.length_map]; exact h1) (by rw [List.length_map]; exact h2) (Nat.lt_succ_self m)
        rw [List.getElem_map, List.getElem_map, g1, g2] at this
        exact this
      rw [decide_eq_true lt]
      exact k1 H4 (Same.refl H4)
    · intro H5 s5 hD5
      refine all_of (List.replicate (min (l.map fun e => V.str e.1).length ((l.map fun e => V.str e.1).drop 1).length) true) id (by rw [hD5, List.map_replicate]; rfl) ?_
      have ar : ∀ n, (List.replicate n true).all id = true := fun n => List.all_eq_true.mpr fun b hb => (List.mem_replicate.mp hb).2
      rw [ar]
      exact k H5 ((sa.trans s2).trans ((same_mk hp).trans s5))
def strD (l : List Str) : PyData := .tuple (l.map .str)
abbrev Okz (z : Str) : Prop := PyData.strOk z = true
theorem okz_of {z : Str} (h : ∀ c ∈ tl z, c < 1114112) : Okz z := by
  show (z.cps.all fun c => decide (c < 1114112)) = true
  rw [Array.all_eq_true_iff_forall_mem]
  intro c hc
  exact decide_eq_true (h c (Array.mem_toList_iff.mpr hc))
theorem jl_small : ∀ {p : List Str}, Nms p → ∀ c ∈ jl p, c < 128
  | [], _ => by intro c hc; cases hc
  | [y], h => fun c hc => by
    have := (h y List.mem_cons_self).2.2 c hc
    omega
  | y :: z :: r, h => fun c hc => by
    have e : jl (y :: z :: r) = tl y ++ ([47] ++ jl (z :: r)) := rfl
    rw [e] at hc
    rcases List.mem_append.mp hc with q | q
    · have := (h y List.mem_cons_self).2.2 c q
      omega
    · rcases List.mem_append.mp q with q | q
      · rw [List.mem_singleton.mp q]
        decide
      · exact jl_small h.tail c q
theorem okz_js {p : List Str} (h : Nms p) : Okz (js p) := okz_of fun c hc => by
  rw [tl_js] at hc
  have := jl_small h c hc
  omega
theorem okz_nm {z : Str} (h : IsNm z) : Okz z := okz_of fun c hc => by
  have := h.2.2 c hc
  omega
theorem okz_ent {z : Str} (h : IsNm z) (b : Bool) : Okz (ent z b) := okz_of fun c hc => by
  rw [tl_ent] at hc
  rcases List.mem_append.mp hc with q | q
  · have := h.2.2 c q
    omega
  · cases b
    · cases q
    · rw [List.mem_singleton.mp q]
      decide
theorem lay_strs : ∀ l : List Str, (∀ z ∈ l, Okz z) → PyData.canLayAll0 (l.map .str) = true
  | [], _ => by simp [PyData.canLayAll0]
  | z :: r, h => by
    have h1 : PyData.strOk z = true := h z List.mem_cons_self
    simp [PyData.canLayAll0, PyData.canLay0, lay_strs r fun y hy => h y (List.mem_cons_of_mem _ hy), h1]
theorem dep_strs : ∀ l : List Str, PyData.depthAll (l.map .str) ≤ 1
  | [] => by simp [PyData.depthAll]
  | z :: r => by
    have := dep_strs r
    simp only [List.map_cons, PyData.depthAll, PyData.depth]
    omega
theorem shaped_strs (l : List Str) (hl : ∀ z ∈ l, Okz z) : SeqAt.shaped (strD l) = true := by
  have h := dep_strs l
  have h2 : PyData.depth (.tuple (l.map .str)) ≤ 64 := by
    simp only [PyData.depth]
    omega
  show (PyData.canLay0 (.tuple (l.map .str)) && decide (PyData.depth (.tuple (l.map .str)) ≤ 64)) = true
  rw [Bool.and_eq_true]
  exact ⟨by simp only [PyData.canLay0]; exact lay_strs l hl, decide_eq_true h2⟩
theorem dp_strs {H : Hp} : ∀ l : List Str, DpAll K H (l.map V.str) (l.map PyData.str)
  | [] => .nil
  | z :: r => .cons (.str z) (dp_strs r)
theorem eqv_str2 (a b c d : Str) : PyData.eqv (strD [a, b]) (strD [c, d]) = ((a == c) && (b == d)) := by
  simp [strD, PyData.eqv, PyData.eqvAll]
theorem scCanShow : FnScope ["look", "answer", "word"] ["look", "answer"] (defScope sCanShow) := ⟨rfl, rfl, rfl, by decide +kernel, rfl, by decide +kernel, by decide +kernel⟩
theorem ok_canShow {f fL : Addr} {fd fdL : FuncData} (F : Fun K "can_show" "can_show" sCanShow f fd) (T0 : TPk mg) (aIsListing : At K mg "is_listing" fL fdL ["thing"]) (GIsListing : FnOk P w K mg base CX0 3 fL fdL ["thing"] spIsListing) : FnOk P w K mg base CX0 4 f fd ["look", "answer"] spCanShow := by
  have T := T0.b
  obtain ⟨t1, mROOT⟩ := T0.ROOT
  refine F.ok scCanShow (fun vs H Q E h => ?_) (fun cdv A outer s H vs Q E hr h => ?_)
  · obtain ⟨t, va, k, a, rfl, _⟩ := h
    rfl
  · have hu := hr.units
    obtain ⟨t, va, k, a, rfl, ht, ha, hk, ok, q⟩ := h
    refine ⟨_, pss_cons (ps_set (i := 2) scCanShow.nd rfl (Or.inl rfl) (pe_ix ix_tup (pv 0) pe_int (fun _ _ => rfl)))
            (pss_cons (ps_if (pt_cmp (pc_isN (pv 1))) (pss_one (ps_ret (pe_and (pe_cmpR op_ne (pv 2) pe_str (nomark _)) (pe_one (pe_cmpR (op_neD hu) (pv 0) (pe_tup (pa_cons pe_str (pa_cons (pe_glob (v := .str "") rfl mROOT ⟨_, rfl⟩) pa_nil))) (nomark _)))))) (pss_nil))
            (pss_cons (ps_if (pt_cmpR op_eq (pv 2) pe_str (nomark _)) (pss_one (ps_ret (pe_and (pe_call GIsListing (hr.mono (by decide)) rfl aIsListing.m aIsListing.k aIsListing.b .nil pass0 (pa_cons (pv 1) pa_nil)) (pe_one (pe_or (pe_cmpR op_gt (pe_callB call_len_row (by rfl) T.len PySem.boot_len (pa_cons (pv 1) pa_nil)) pe_int (nomark _)) (pe_one (pe_cmpR op_eq (pe_ix ix_tup (pv 0) pe_int (fun _ _ => rfl)) (pe_glob (v := .str "") rfl mROOT ⟨_, rfl⟩) (nomark _)))))))) (pss_nil))
            (pss_one (ps_ret (pe_callB call_isi (by rfl) T.isinstance (by decide +kernel) (pa_cons (pv 1) (pa_cons (pe_bltn (v := .ty "str") (by rfl) T.str (by decide +kernel) rfl) pa_nil))))))), ?_⟩
    have neD : ∀ (x y : Str) (p : Addr) (H2 : Hp), H2 t = some (.tup [.str x, .str y]) → H2 p = some (.tup [.str "list", .str ""]) → Okz y → (x = "list" → y ≠ "") → Okz x → ∀ Q1 : VK, Q1 (.bl true) H2 → rNeD K (.ref t) (.ref p) H2 Q1 := fun x y p H2 e1 e2 oy ne ox Q1 q1 => by
      refine ⟨strD [x, y], strD ["list", ""], .tup (SqT.of e1) (dp_strs [x, y]), .tup (SqT.of e2) (dp_strs ["list", ""]), shaped_strs _ (by simpa using ⟨ox, oy⟩), shaped_strs _ (by decide +kernel), ?_⟩
      rw [eqv_str2]
      have : ((x == "list") && (y == "")) = false := by
        rw [Bool.and_eq_false_iff]
        by_cases e : x = "list"
        · exact .inr (beq_eq_false_iff_ne.mpr (ne e))
        · exact .inl (beq_eq_false_iff_ne.mpr e)
      rw [this]
      exact q1
    cases k with
    | rd p =>
      refine ⟨_, rfl, t, _, 0, _, rfl, rfl, SqT.of ht, atI_nat (j := 0) rfl, ?_⟩
      cases a with
      | no =>
        cases (show va = .non from ha)
        refine ⟨_, rfl, _, rfl, iteT ⟨_, rfl, rfl, _, rfl, iteT ⟨_, rfl, by show 2 ≤ sizeLine; decide, fun p hp => ?_⟩⟩⟩
        exact neD _ _ p _ (same_mk hp _ _ ht) upd_same (okz_js hk.2.1) (fun z => absurd z (by decide +kernel)) (by decide +kernel) _ (q _ (same_mk hp))
      | tx z =>
        cases (show va = .str z from ha)
        exact ⟨_, rfl, _, rfl, iteN (by intro z; cases z) ⟨_, rfl, rfl, _, rfl, iteN (by decide +kernel) ⟨_, rfl, _, _, .type "str", .type "str", true, rfl, .ty "str", .base (.str _), kit_ty (by decide +kernel), q H (Same.refl H)⟩⟩⟩
      | es l => exact ok.elim
    | ls p =>
      refine ⟨_, rfl, t, _, 0, _, rfl, rfl, SqT.of ht, atI_nat (j := 0) rfl, ?_⟩
      cases a with
      | no =>
        cases (show va = .non from ha)
        refine ⟨_, rfl, _, rfl, iteT ⟨_, rfl, rfl, _, rfl, iteT ⟨_, rfl, by show 2 ≤ sizeLine; decide, fun p hp => ?_⟩⟩⟩
        exact neD _ _ p _ (same_mk hp _ _ ht) upd_same (okz_js hk.1) (fun _ => js_ne hk.1 ok) (by decide +kernel) _ (q _ (same_mk hp))
      | tx z => exact ok.elim
      | es l =>
        obtain ⟨b, rfl, hb⟩ := (show RowAt H va (l.map entV) from ha)
        refine ⟨_, rfl, _, rfl, iteN (by intro z; cases z) ⟨_, rfl, rfl, _, rfl, iteY rfl ⟨_, rfl, .ref b, l, rfl, ⟨b, rfl, hb⟩, ok.1, fun H1 s1 => ⟨_, rfl, iteT ⟨_, rfl, .ref b, _, rfl, RowAt.up ⟨b, rfl, hb⟩ s1, _, _, rfl, rfl, _, rfl, ?_⟩⟩⟩⟩⟩
        rw [List.length_map]
        by_cases e : l = []
        · subst e
          refine iteN (by decide) ⟨_, rfl, t, _, 1, _, rfl, rfl, SqT.of (s1 _ _ ht), atI_nat (j := 1) rfl, rfl, ?_⟩
          have pe : p = [] := ok.2.resolve_left (fun z => z rfl)
          subst pe
          exact q H1 s1
        · have := List.length_pos_iff.mpr e
          refine iteY (by omega) ?_
          exact q H1 s1
    | se n =>
      refine ⟨_, rfl, t, _, 0, _, rfl, rfl, SqT.of ht, atI_nat (j := 0) rfl, ?_⟩
      cases a with
      | no =>
        cases (show va = .non from ha)
        refine ⟨_, rfl, _, rfl, iteT ⟨_, rfl, rfl, _, rfl, iteT ⟨_, rfl, by show 2 ≤ sizeLine; decide, fun p hp => ?_⟩⟩⟩
        exact neD _ _ p _ (same_mk hp _ _ ht) upd_same (okz_nm hk) (fun z => absurd z (by decide +kernel)) (by decide +kernel) _ (q _ (same_mk hp))
      | tx z =>
        cases (show va = .str z from ha)
        exact ⟨_, rfl, _, rfl, iteN (by intro z; cases z) ⟨_, rfl, rfl, _, rfl, iteN (by decide +kernel) ⟨_, rfl, _, _, .type "str", .type "str", true, rfl, .ty "str", .base (.str _), kit_ty (by decide +kernel), q H (Same.refl H)⟩⟩⟩
      | es l => exact ok.elim
    | tl =>
      refine ⟨_, rfl, t, _, 0, _, rfl, rfl, SqT.of ht, atI_nat (j := 0) rfl, ?_⟩
      cases a with
      | no => exact ok.elim
      | tx z =>
        cases (show va = .str z from ha)
        exact ⟨_, rfl, _, rfl, iteN (by intro z; cases z) ⟨_, rfl, rfl, _, rfl, iteN (by decide +kernel) ⟨_, rfl, _, _, .type "str", .type "str", true, rfl, .ty "str", .base (.str _), kit_ty (by decide +kernel), q H (Same.refl H)⟩⟩⟩
      | es l => exact ok.elim
theorem scAsSight : FnScope ["thing", "look"] ["thing"] (defScope sAsSight) := ⟨rfl, rfl, rfl, by decide +kernel, rfl, by decide +kernel, by decide +kernel⟩
theorem ok_asSight {f fR fL fS : Addr} {fd fdR fdL fdS : FuncData} (F : Fun K "as_sight" "as_sight" sAsSight f fd) (T : TB mg) (aRow : At K mg "is_row" fR fdR ["thing", "size"]) (aAsLook : At K mg "as_look" fL fdL ["thing"]) (aCanShow : At K mg "can_show" fS fdS ["look", "answer"])
    (GRow : FnOk P w K mg base CX0 1 fR fdR ["thing", "size"] spRow) (GAsLook : FnOk P w K mg base CX0 5 fL fdL ["thing"] spAsLook) (GCanShow : FnOk P w K mg base CX0 4 fS fdS ["look", "answer"] spCanShow) : FnOk P w K mg base CX0 6 f fd ["thing"] spAsSight := by
  refine F.ok scAsSight (fun vs H Q E h => ?_) (fun cdv A outer s H vs Q E hr h => ?_)
  · obtain ⟨v, k, rfl, _⟩ := h
    rfl
  · obtain ⟨v, ⟨k, a⟩, rfl, ⟨vk, va, hv, hk, ha⟩, ⟨ok1, ok2⟩, q⟩ := h
    refine ⟨_, pss_cons (ps_if (pt_not (pt_val (pe_call GRow (hr.mono (by decide)) rfl aRow.m aRow.k aRow.b .nil pass0 (pa_cons (pv 0) (pa_cons pe_int pa_nil))))) (pss_one (ps_ret pe_non)) (pss_nil))
            (pss_cons (ps_set (i := 1) scAsSight.nd rfl (Or.inl rfl) (pe_call GAsLook (hr.mono (by decide)) rfl aAsLook.m aAsLook.k aAsLook.b .nil pass0 (pa_cons (pe_ix ix_row (pv 0) pe_int (fun _ _ => rfl)) pa_nil)))
            (pss_cons (ps_if (PW.pt (pw_or (pt_cmp (pc_isN (pv 1))) (pw_or1 (pt_not (pt_val (pe_call GCanShow (hr.mono (by decide)) rfl aCanShow.m aCanShow.k aCanShow.b .nil pass0 (pa_cons (pv 1) (pa_cons (pe_ix ix_row (pv 0) pe_int (fun _ _ => rfl)) pa_nil)))))))) (pss_one (ps_ret pe_non)) (pss_nil))
            (pss_cons (ps_if (pt_val (pe_callB isi_LT (by rfl) T.isinstance (by decide +kernel) (pa_cons (pe_ix ix_row (pv 0) pe_int (fun _ _ => rfl)) (pa_cons (pe_tup (pa_cons (pe_bltn (v := .ty "list") (by rfl) T.list (by decide +kernel) rfl) (pa_cons (pe_bltn (v := .ty "tuple") (by rfl) T.tuple (by decide +kernel) rfl) pa_nil))) pa_nil)))) (pss_one (ps_ret (pe_tup (pa_cons (pv 1) (pa_cons (pe_callTy call_tup_row (by rfl) T.tuple (by decide +kernel) (pa_cons (pe_ix ix_row (pv 0) pe_int (fun _ _ => rfl)) pa_nil)) pa_nil))))) (pss_nil))
            (pss_one (ps_ret (pe_tup (pa_cons (pv 1) (pa_cons (pe_ix ix_row (pv 0) pe_int (fun _ _ => rfl)) pa_nil)))))))), ?_⟩
    refine ⟨_, rfl, v, _, 2, rfl, hv, fun H1 s1 => ⟨_, rfl, iteF ?_⟩⟩
    have v1 := hv.up s1
    refine ⟨_, rfl, _, 0, _, v1, rfl, atI_nat (j := 0) rfl, vk, k, rfl, RowAt.up hk s1, ok1, fun t H2 s2 ht => ?_⟩
    have v2 := v1.up s2
    have a2 := (ha.up s1).up s2
    refine ⟨_, rfl, _, rfl, iteN (by intro z; cases z) ⟨_, rfl, _, rfl, _, 1, _, v2, rfl, atI_nat (j := 1) rfl, t, va, k, a, rfl, ht, a2, ok1, ok2, fun H3 s3 => ⟨_, rfl, iteF ?_⟩⟩⟩
    have v3 := v2.up s3
    have a3 := a2.up s3
    have ht3 := s3 _ _ ht
    have s123 := (s1.trans s2).trans s3
    have fin : ∀ (H5 : Hp), Same H3 H5 → AnAt H5 va a → (∀ p, H5 p = none → Q (.ref p) (upd H5 p (.tup [.ref t, va]))) := fun H5 s5 hA p hp => by
      refine q (.ref p) _ (same_ch (s123.trans s5) ((s123.trans s5).free hp)) ⟨p, t, va, rfl, upd_same, same_mk hp _ _ (s5 _ _ ht3), hA.up (same_mk hp)⟩
    refine ⟨_, rfl, _, 1, _, v3, rfl, atI_nat (j := 1) rfl, by show 2 ≤ sizeLine; decide, fun tp htp => ?_⟩
    have sp := same_mk (o := .tup [.ty "list", .ty "tuple"]) htp
    cases a with
    | no =>
      cases (show va = .non from ha)
      exact ⟨_, tp, false, rfl, upd_same, .inr ⟨rfl, .inl rfl⟩, _, rfl, iteF ⟨_, rfl, _, rfl, _, 1, _, v3.up sp, rfl, atI_nat (j := 1) rfl, by show 2 ≤ sizeLine; decide, fun p hp => fin _ sp rfl p hp⟩⟩
    | tx z =>
      cases (show va = .str z from ha)
      exact ⟨_, tp, false, rfl, upd_same, .inr ⟨rfl, .inr (.inl ⟨z, rfl⟩)⟩, _, rfl, iteF ⟨_, rfl, _, rfl, _, 1, _, v3.up sp, rfl, atI_nat (j := 1) rfl, by show 2 ≤ sizeLine; decide, fun p hp => fin _ sp rfl p hp⟩⟩
    | es l =>
      refine ⟨_, tp, true, rfl, upd_same, .inl ⟨rfl, _, RowAt.up a3 sp⟩, _, rfl, iteT ⟨_, rfl, _, rfl, _, 1, _, v3.up sp, rfl, atI_nat (j := 1) rfl, va, l.map entV, rfl, RowAt.up a3 sp, fun b H4 s4 hb => ⟨by show 2 ≤ sizeLine; decide, fun p hp => ?_⟩⟩⟩
      have s34 := sp.trans s4
      exact q (.ref p) _ (same_ch (s123.trans s34) ((s123.trans s34).free hp)) ⟨p, t, .ref b, rfl, upd_same, same_mk hp _ _ (s34 _ _ ht3), ⟨b, rfl, same_mk hp _ _ hb⟩⟩
end
end T5

set_option maxHeartbeats 3900000
namespace T5
open PySem PySem.Spec PyProof.Rows L2 TL
open CB
def lkS : Lk → List Str
  | .rd p => ["read", js p]
  | .ls p => ["list", js p]
  | .se n => ["setting", n]
  | .tl => ["tool"]
theorem lkV_S (k : Lk) : lkV k = (lkS k).map V.str := by cases k <;> rfl
def lkD (k : Lk) : PyData := strD (lkS k)
def anD : An → PyData
  | .no => .none
  | .tx z => .str z
  | .es l => strD (l.map fun e => ent e.1 e.2)
def siD (s : Lk × An) : PyData := .tuple [lkD s.1, anD s.2]
def LkW : Lk → Prop
  | .rd p => Nms p ∧ p.length ≤ 100
  | .ls p => Nms p ∧ p.length ≤ 100
  | .se n => IsNm n
  | .tl => True
def AnW : An → Prop
  | .no => True
  | .tx z => Okz z
  | .es l => (∀ e ∈ l, IsNm e.1) ∧ l.length ≤ 1000
def SiW (s : Lk × An) : Prop := LkW s.1 ∧ AnW s.2
theorem LkOk.w {k : Lk} (h : LkOk k) : LkW k := by
  cases k with
  | rd p => exact ⟨h.2.1, Nat.le_trans h.2.2 (by decide)⟩
  | ls p => exact ⟨h.1, Nat.le_trans h.2 (by decide)⟩
  | se n => exact h
  | tl => trivial
theorem lkS_ok {k : Lk} (h : LkW k) : ∀ z ∈ lkS k, Okz z := by
  intro z hz
  cases k with
  | rd p =>
    rcases List.mem_cons.mp hz with e | e
    · rw [e]
      decide +kernel
    · rw [List.mem_singleton.mp e]
      exact okz_js h.1
  | ls p =>
    rcases List.mem_cons.mp hz with e | e
    · rw [e]
      decide +kernel
    · rw [List.mem_singleton.mp e]
      exact okz_js h.1
  | se n =>
    rcases List.mem_cons.mp hz with e | e
    · rw [e]
      decide +kernel
    · rw [List.mem_singleton.mp e]
      exact okz_nm h
  | tl =>
    rw [List.mem_singleton.mp hz]
    decide +kernel
theorem lay_strD (l : List Str) (h : ∀ z ∈ l, Okz z) : (strD l).canLay0 = true := by
  simp only [strD, PyData.canLay0]
  exact lay_strs l h
theorem dep_strD (l : List Str) : (strD l).depth ≤ 2 := by
  have := dep_strs l
  simp only [strD, PyData.depth]
  omega
theorem anD_lay {a : An} (h : AnW a) : (anD a).canLay0 = true := by
  cases a with
  | no => simp [anD, PyData.canLay0]
  | tx z =>
    have h2 : PyData.strOk z = true := h
    simp [anD, PyData.canLay0, h2]
  | es l =>
    refine lay_strD _ fun z hz => ?_
    obtain ⟨e, he, rfl⟩ := List.mem_map.mp hz
    exact okz_ent (h.1 e he) e.2
theorem anD_dep (a : An) : (anD a).depth ≤ 2 := by
  cases a with
  | no => simp [anD, PyData.depth]
  | tx z => simp [anD, PyData.depth]
  | es l => exact dep_strD _
theorem shaped_mk {d : PyData} (h1 : d.canLay0 = true) (h2 : d.depth ≤ 64) : SeqAt.shaped d = true := by
  show (d.canLay0 && decide (d.depth ≤ 64)) = true
  rw [Bool.and_eq_true]
  exact ⟨h1, decide_eq_true h2⟩
theorem anD_shaped {a : An} (h : AnW a) : SeqAt.shaped (anD a) = true := shaped_mk (anD_lay h) (Nat.le_trans (anD_dep a) (by decide))
theorem lkD_shaped {k : Lk} (h : LkW k) : SeqAt.shaped (lkD k) = true := shaped_strs _ (lkS_ok h)
theorem siD_lay {s : Lk × An} (h : SiW s) : (siD s).canLay0 = true := by
  have h1 : (lkD s.1).canLay0 = true := lay_strD _ (lkS_ok h.1)
  have h2 := anD_lay h.2
  simp [siD, PyData.canLay0, PyData.canLayAll0, h1, h2]
theorem siD_dep (s : Lk × An) : (siD s).depth ≤ 3 := by
  have h1 : (lkD s.1).depth ≤ 2 := dep_strD _
  have h2 := anD_dep s.2
  simp only [siD, PyData.depth, PyData.depthAll]
  omega
section
variable {K : PySem.W.Frag} {H : Hp}
theorem lk_dp {u : Addr} {k : Lk} (h : H u = some (.tup (lkV k))) : Dp K H (.ref u) (lkD k) := .tup (SqT.of (by rw [h, lkV_S])) (dp_strs (lkS k))
theorem an_dp {v : V} {a : An} (h : AnAt H v a) : Dp K H v (anD a) := by
  cases a with
  | no =>
    cases (show v = .non from h)
    exact .non
  | tx z =>
    cases (show v = .str z from h)
    exact .str z
  | es l =>
    obtain ⟨b, rfl, hb⟩ := h
    refine .tup (SqT.of (xs := (l.map fun e => ent e.1 e.2).map V.str) ?_) (dp_strs _)
    rw [hb, List.map_map]
    rfl
end
theorem eqv_strs : ∀ l m : List Str, PyData.eqvAll (l.map .str) (m.map .str) = decide (l = m)
  | [], [] => by simp [PyData.eqvAll]
  | [], z :: m => by simp [PyData.eqvAll]
  | z :: l, [] => by simp [PyData.eqvAll]
  | y :: l, z :: m => by
    have ih := eqv_strs l m
    simp only [List.map_cons, PyData.eqvAll, PyData.eqv, ih]
    by_cases e : y = z
    · subst e
      simp
    · have : (y == z) = false := beq_eq_false_iff_ne.mpr e
      simp [this, e]
theorem eqv_strD (l m : List Str) : PyData.eqv (strD l) (strD m) = decide (l = m) := by
  simp only [strD, PyData.eqv]
  exact eqv_strs l m
theorem lkS_inj {k k' : Lk} (h : LkW k) (h' : LkW k') (e : lkS k = lkS k') : k = k' := by
  cases k <;> cases k' <;> simp only [lkS, List.cons.injEq, and_true, reduceCtorEq, and_false] at e
  · rw [js_inj h.1 h'.1 e.2]
  · exact absurd e.1 (by decide +kernel)
  · exact absurd e.1 (by decide +kernel)
  · exact absurd e.1 (by decide +kernel)
  · rw [js_inj h.1 h'.1 e.2]
  · exact absurd e.1 (by decide +kernel)
  · exact absurd e.1 (by decide +kernel)
  · exact absurd e.1 (by decide +kernel)
  · rw [e.2]
  · rfl
theorem ents_inj : ∀ {l m : List (Str × Bool)}, (∀ e ∈ l, IsNm e.1) → (∀ e ∈ m, IsNm e.1) → (l.map fun e => ent e.1 e.2) = (m.map fun e => ent e.1 e.2) → l = m
  | [], [], _, _, _ => rfl
  | [], _ :: _, _, _, e => by simp at e
  | _ :: _, [], _, _, e => by simp at e
  | (a, b) :: l, (c, d) :: m, hl, hm, e => by
    simp only [List.map_cons, List.cons.injEq] at e
    obtain ⟨e1, e2⟩ := ent_inj (hl _ List.mem_cons_self) (hm _ List.mem_cons_self) e.1
    rw [ents_inj (fun x hx => hl x (List.mem_cons_of_mem _ hx)) (fun x hx => hm x (List.mem_cons_of_mem _ hx)) e.2]
    simp only at e1
    rw [e1, e2]
theorem eqv_lk {k k' : Lk} (h : LkW k) (h' : LkW k') : PyData.eqv (lkD k) (lkD k') = decide (k = k') := by
  show PyData.eqv (strD _) (strD _) = _
  rw [eqv_strD, decide_eq_decide]
  exact ⟨lkS_inj h h', fun e => by rw [e]⟩
theorem eqv_an {a a' : An} (h : AnW a) (h' : AnW a') : PyData.eqv (anD a) (anD a') = decide (a = a') := by
  cases a <;> cases a' <;> simp only [anD, strD, PyData.eqv]
  · simp
  · simp
  · simp
  · simp
  · rename_i y z
    by_cases e : y = z
    · subst e
      simp
    · have : (y == z) = false := beq_eq_false_iff_ne.mpr e
      simp [this, e]
  · simp
  · simp
  · simp
  · rename_i l m
    refine (eqv_strs _ _).trans ?_
    rw [decide_eq_decide]
    exact ⟨fun e => by rw [ents_inj h.1 h'.1 e], fun e => by
      cases e
      rfl⟩
end T5

set_option maxHeartbeats 3900000
namespace T5
open PySem PySem.Spec PyProof.Rows L2 TL
open C8 (pss_cut tCut pe_gc)
open CB
def lostF (q : List Str) : Lk → Bool
  | .rd p => ben p q || ben q p
  | .ls p => decide (p = q) || ben p q
  | _ => false
def lostP (q : List Str) (l : List (Str × Bool)) (w : Bool) (p : List Str) : Bool :=
  if ben p q = true then
    match p.drop q.length with
    | [] => true
    | n :: r => if (n, true) ∈ l then w && decide (r = []) else if (n, false) ∈ l then !w || !decide (r = []) else true
  else w && (decide (q = p) || ben q p)
def lostN (q : List Str) (l : List (Str × Bool)) : Lk → Bool
  | .rd p => lostP q l true p
  | .ls p => lostP q l false p
  | _ => false
def follL (s : Lk × An) (k : Lk) : Bool := match s with
  | (.rd _, .no) => false
  | (.rd q, _) => lostF q k
  | (.ls q, .no) => match k with
    | .rd p => ben p q
    | .ls p => ben p q
    | _ => false
  | (.ls q, .es l) => lostN q l k
  | _ => false
def SisL (H : Hp) (D : Addr) (ss : List (Lk × An)) : Prop := ∃ vs : List V, H D = some (.lst vs) ∧ vs.length = ss.length ∧ ∀ (i : Nat) (v : V) (s : Lk × An), vs[i]? = some v → ss[i]? = some s → SiAt H v s
def SiOk' (s : Lk × An) : Prop := SiOk s ∧ SiW s
section
variable {P : Program} {w : World} {K : PySem.W.Frag} {mg : Str → Option Value} {base : Heap}
end
end T5

set_option maxHeartbeats 3900000
namespace T5
open PySem PySem.Spec PyProof.Rows L2 TL
open C8 (pss_cut tCut pe_gc)
open CB
theorem SisL.up {H H' : Hp} {D : Addr} {ss : List (Lk × An)} (h : SisL H D ss) (s : Same H H') : SisL H' D ss := by
  obtain ⟨vs, h1, h2, h3⟩ := h
  exact ⟨vs, s _ _ h1, h2, fun i v x hv hx => (h3 i v x hv hx).up s⟩
section
variable {P : Program} {w : World} {K : PySem.W.Frag} {mg : Str → Option Value} {base : Heap}
end
end T5

set_option maxHeartbeats 3900000
namespace CB
open PySem PySem.Spec PyProof.Rows L2 PyProof.V
section
variable {X : Cx}
variable {K0 : PySem.W.Frag}
theorem len_seqK (hK : X.K = K0) : CallR X (.builtin "len") (fun xs H Q => ∃ p ys, xs = [V.ref p] ∧ (SqL K0 H p ys ∨ SqT K0 H p ys) ∧ Q (V.int (ys.length : Int)) H) := by
  subst hK
  exact call_len_seq
end
end CB

set_option maxHeartbeats 3900000
namespace T5
open PySem PySem.Spec PyProof.Rows L2 TL
open C8 (pss_cut tCut pe_gc)
open CB
abbrev sSome : Stmt := top 40
theorem er_perm : ∀ (l : List Str) (m : Nat) (h : m < l.length), (l[m] :: l.eraseIdx m).Perm l
  | x :: r, 0, _ => List.Perm.refl _
  | x :: r, m + 1, h => by
    have hm : m < r.length := by simpa using h
    have ih := er_perm r m hm
    show (r[m]'hm :: x :: r.eraseIdx m).Perm (x :: r)
    exact (List.Perm.swap x (r[m]'hm) (r.eraseIdx m)).trans (List.Perm.cons x ih)
theorem er_map : ∀ (l : List Str) (m : Nat), (l.map V.str).eraseIdx m = (l.eraseIdx m).map V.str
  | [], _ => rfl
  | _ :: _, 0 => rfl
  | x :: r, m + 1 => by
    show V.str x :: (r.map V.str).eraseIdx m = V.str x :: (r.eraseIdx m).map V.str
    rw [er_map r m]
def spMixed : Sp := fun vs H Q _ => ∃ (st l p : Addr) (c : Nat) (zs : List Str), vs = [.ref st, .ref p] ∧ Strm H st l c ∧ c ≤ 900000 ∧ Pool H st l p zs ∧ zs.length < 1000 ∧
  ∀ (D : Addr) (ys : List Str) (H' : Hp), ys.Perm zs → H D = none → Pool H' st l D ys → But st l H H' → Strm H' st l (c + zs.length) → Q (.ref D) H'
def LksL (H : Hp) (D : Addr) (ks : List Lk) : Prop := ∃ vs : List V, H D = some (.lst vs) ∧ vs.length = ks.length ∧ ∀ (i : Nat) (v : V) (k : Lk), vs[i]? = some v → ks[i]? = some k → ∃ t, v = .ref t ∧ H t = some (.tup (lkV k))
def spLooks : Sp := fun vs H Q _ => ∃ (st l p : Addr) (c : Nat) (zs : List Str) (many : Int), vs = [.ref st, .ref p, .int many] ∧ Strm H st l c ∧ c ≤ 700000 ∧ Pool H st l p zs ∧ 0 < zs.length ∧ zs.length < 1000 ∧ (∀ z ∈ zs, IsNm z) ∧ 0 ≤ many ∧ many ≤ 100 ∧
  ∀ (D : Addr) (ks : List Lk) (H' : Hp) (c' : Nat), (ks.length : Int) ≤ many → (∀ k ∈ ks, LkOn zs 3 k) → ks.Nodup → H D = none → LksL H' D ks → But st l H H' → Strm H' st l c' → c' ≤ c + 6 * many.toNat → Q (.ref D) H'
abbrev Oka (z : Str) : Prop := Okz z ∧ z.length ≤ 20
def AnOn (zs : List Str) : An → Prop
  | .no => True
  | .tx z => Oka z ∧ z ≠ "zzz"
  | .es l => (∀ e ∈ l, e.1 ∈ zs) ∧ l.length ≤ 20
def spSome : Sp := fun vs H Q _ => ∃ (st l p t : Addr) (c : Nat) (zs : List Str) (k : Lk), vs = [.ref st, .ref p, .ref t] ∧ Strm H st l c ∧ c ≤ 700000 ∧ Pool H st l p zs ∧ zs.Nodup ∧ 0 < zs.length ∧ zs.length < 20 ∧ (∀ z ∈ zs, IsNm z) ∧ H t = some (.tup (lkV k)) ∧ LkW k ∧
  ∀ (v : V) (a : An) (H' : Hp) (c' : Nat), AnAt H' v a → AnOk k a → AnOn zs a → But st l H H' → Strm H' st l c' → c' ≤ c + 60 → Q v H'
section
variable {P : Program} {w : World} {K : PySem.W.Frag} {mg : Str → Option Value} {base : Heap} {fD fP fPa fFr fMx fTe fLo : Addr} {fdD fdP fdPa fdFr fdMx fdTe fdLo : FuncData}
theorem scMx : FnScope ["_law_stream", "_law_things", "_law_left", "_law_k"] ["_law_stream", "_law_things"] (defScope sMixed) := ⟨rfl, rfl, rfl, by decide +kernel, rfl, by decide +kernel, by decide +kernel⟩
theorem ok_mixed {f : Addr} {fd : FuncData} (F : Fun K "_law_mixed" "_law_mixed" sMixed f fd) (T : TB mg) (aD : aD' K mg fD fdD) (GD : FnOk P w K mg base CX0 1 fD fdD ["_law_stream", "_law_many"] spDraw) : FnOk P w K mg base CX0 2 f fd ["_law_stream", "_law_things"] spMixed := by
  refine F.ok scMx (fun vs H Q E h => ?_) (fun cdv A outer s H vs Q E hr h => ?_)
  · obtain ⟨st, l, p, c, zs, rfl, _⟩ := h
    rfl
  · obtain ⟨st, l, p, c, zs, rfl, S, hc, L, z1, k⟩ := h
    refine ⟨_, pss_cons (ps_set (i := 2) scMx.nd rfl (Or.inr rfl) (pe_callTy call_list_of (by rfl) T.list (by decide +kernel) (pa_cons (pv 1) pa_nil)))
            (pss_one (ps_ret (pe_lc (own := [("_law_k", 3)]) (g := gName 3) (tt := tYes) rfl scMx.nd (pi_range1 rfl T.range (pa_cons (pe_callB call_len_seq (by rfl) T.len PySem.boot_len (pa_cons (pv 2) pa_nil)) pa_nil)) (blkOk_by (own := [("_law_k", 3)]) (N := ["_law_stream", "_law_things", "_law_left", "_law_k"]) (sc := defScope sMixed) (by decide +kernel)) (fun _ _ _ _ _ => (pg_name (i := 3) scMx.nd rfl (Or.inl rfl))) (fun _ _ _ _ _ => pts_nil) (fun _ _ _ _ _ => (by exact (pe_bmK K rfl PySem.F.plainAttrs_list PySem.F.slot_list_pop PySem.F.type_list_pop mt_popAt (pv 2) (pa_cons (pe_call GD (hr.mono (by decide)) rfl aD.m aD.k aD.b .nil pass0 (pa_cons (pv 0) (pa_cons (pe_callB (len_seqK (K0 := K) rfl) (by rfl) T.len PySem.boot_len (pa_cons (pv 2) pa_nil)) pa_nil))) pa_nil))))))), ?_⟩
    refine ⟨_, rfl, p, _, rfl, .inl (SqL.of L.h), fun u hu => ?_⟩
    have nu := S.ne_new hu
    have S0 := S.up (same_mk (o := .lst (zs.map V.str)) hu)
    refine ⟨_, rfl, u, _, rfl, .inl (SqL.of upd_same), _, rfl, by omega, by rw [List.length_map]; omega, fun D hD => ?_⟩
    rw [List.length_map]
    have nD := S0.ne_new hD
    have uD : u ≠ D := ne_of_none upd_same hD
    have s01 : Same H (upd H u (.lst (zs.map V.str))) := same_mk hu
    have hDH : H D = none := s01.free hD
    refine lc_range (lo := 0) (n := ((zs.length : Nat) : Int).toNat) (fun i H' => But st l H H' ∧ Strm H' st l (c + i) ∧ ∃ rem ys : List Str, ys.length = i ∧ (ys ++ rem).Perm zs ∧ H' u = some (.lst (rem.map V.str)) ∧ H' D = some (.lst (ys.map V.str)))
      ⟨But.same (s01.trans (same_mk hD)), S0.up (same_mk hD), zs, [], rfl, List.Perm.refl _, by rw [upd_ne uD]; exact upd_same, upd_same⟩ ?_ ?_
    · rintro i H' hi ⟨B', S', rem, ys, hy, pm, hu', hD'⟩
      have hi' : i < zs.length := by simpa using hi
      have rl : rem.length = zs.length - i := by
        have := pm.length_eq
        rw [List.length_append] at this
        omega
      refine ⟨rfl, _, rfl, .inl ⟨rfl, _, SqL.of hu'⟩, _, rfl, _, rfl, u, _, rfl, .inl (SqL.of hu'), st, l, c + i, _, rfl, S', by omega, by rw [List.length_map]; omega, by rw [List.length_map]; omega, fun d H'' d0 d1 B'' S'' => ?_⟩
      rw [List.length_map] at d1
      obtain ⟨m, rfl⟩ := Int.eq_ofNat_of_zero_le d0
      have hm : m < rem.length := by omega
      have hu2 := B'' _ _ hu' nu.1 nu.2
      have hD2 := B'' _ _ hD' nD.1 nD.2
      have sx : seqIndex? (m : Int) (rem.map V.str).length = some m := by
        rw [List.length_map]
        have h0 : ¬ ((m : Int) < 0) := by omega
        simp [seqIndex?, h0, hm]
      refine ⟨u, _, m, m, .str rem[m], rfl, rfl, hu2, by omega, by omega, sx, by rw [List.getElem?_map, List.getElem?_eq_getElem hm]; rfl, _, by rw [upd_ne uD.symm]; exact hD2, ?_, ?_, ?_, rem.eraseIdx m, ys ++ [rem[m]], ?_, ?_, ?_, ?_⟩
      · rw [List.length_map, hy]
        exact Nat.lt_of_lt_of_le (show i < 1000 by omega) (by decide)
      · intro b o hb n1 n2
        by_cases e1 : b = D
        · rw [e1, hDH] at hb
          cases hb
        · rw [upd_ne e1]
          by_cases e2 : b = u
          · rw [e2, hu] at hb
            cases hb
          · rw [upd_ne e2]
            exact B'' _ _ (B' _ _ hb n1 n2) n1 n2
      · exact (S''.put nu).put nD
      · rw [List.length_append, hy]
        rfl
      · rw [List.append_assoc]
        exact (List.Perm.append_left ys (er_perm rem m hm)).trans pm
      · rw [upd_ne uD, upd_same, er_map]
      · rw [upd_same, List.map_append]
        rfl
    · rintro H' ⟨B', S', rem, ys, hy, pm, hu', hD'⟩
      have hy' : ys.length = zs.length := by simpa using hy
      have rl : rem.length = 0 := by
        have := pm.length_eq
        rw [List.length_append] at this
        omega
      rw [List.length_eq_zero_iff.mp rl, List.append_nil] at pm
      exact k D ys H' pm hDH ⟨hD', nD.1, nD.2⟩ B' (by simpa using S')
theorem dp_lks {H : Hp} : ∀ {vs : List V} {ks : List Lk}, vs.length = ks.length → (∀ (i : Nat) (v : V) (k : Lk), vs[i]? = some v → ks[i]? = some k → ∃ t, v = .ref t ∧ H t = some (.tup (lkV k))) → DpAll K H vs (ks.map lkD)
  | [], [], _, _ => .nil
  | [], _ :: _, h, _ => by cases h
  | _ :: _, [], h, _ => by cases h
  | v :: vs, k :: ks, h, a => by
    obtain ⟨t, rfl, ht⟩ := a 0 v k rfl rfl
    exact .cons (lk_dp ht) (dp_lks (Nat.succ.inj h) fun i v' k' hv hk => a (i + 1) v' k' hv hk)
theorem lay_lks : ∀ ks : List Lk, (∀ k ∈ ks, LkW k) → PyData.canLayAll0 (ks.map lkD) = true
  | [], _ => by simp [PyData.canLayAll0]
  | k :: r, h => by
    have h1 : (lkD k).canLay0 = true := lay_strD _ (lkS_ok (h k List.mem_cons_self))
    simp [PyData.canLayAll0, lay_lks r fun y hy => h y (List.mem_cons_of_mem _ hy), h1]
theorem dep_lks : ∀ ks : List Lk, PyData.depthAll (ks.map lkD) ≤ 2
  | [] => by simp [PyData.depthAll]
  | k :: r => by
    have h1 : (lkD k).depth ≤ 2 := dep_strD _
    have := dep_lks r
    simp only [List.map_cons, PyData.depthAll]
    omega
theorem shaped_lks (ks : List Lk) (h : ∀ k ∈ ks, LkW k) : SeqAt.shaped (.list (ks.map lkD)) = true := by
  refine shaped_mk ?_ ?_
  · simp only [PyData.canLay0]
    exact lay_lks ks h
  · have := dep_lks ks
    simp only [PyData.depth]
    omega
theorem lkOn_w {zs : List Str} {m : Nat} {k : Lk} (hz : ∀ z ∈ zs, IsNm z) (hm : m ≤ 100) (h : LkOn zs m k) : LkW k := by
  cases k with
  | rd p => exact ⟨fun y hy => hz y (h.2.2 y hy), Nat.le_trans h.2.1 hm⟩
  | ls p => exact ⟨fun y hy => hz y (h.2 y hy), Nat.le_trans h.1 hm⟩
  | se n => exact hz n h
  | tl => trivial
theorem scLs : FnScope ["_law_stream", "_law_pool_here", "_law_many", "_law_found", "_law_k", "_law_look_here"] ["_law_stream", "_law_pool_here", "_law_many"] (defScope sLooks) := ⟨rfl, rfl, rfl, by decide +kernel, rfl, by decide +kernel, by decide +kernel⟩
theorem ok_looks {f : Addr} {fd : FuncData} (F : Fun K "_law_looks" "_law_looks" sLooks f fd) (T : TB mg) (aLo : At K mg "_law_look" fLo fdLo ["_law_stream", "_law_pool_here"]) (GLo : FnOk P w K mg base CX0 4 fLo fdLo ["_law_stream", "_law_pool_here"] spLook) : FnOk P w K mg base CX0 5 f fd ["_law_stream", "_law_pool_here", "_law_many"] spLooks := by
  refine F.ok scLs (fun vs H Q E h => ?_) (fun cdv A outer s H vs Q E hr h => ?_)
  · obtain ⟨st, l, p, c, zs, many, rfl, _⟩ := h
    rfl
  · obtain ⟨st, l, p, c, zs, many, rfl, S, hc, L, z0, z1, nm, m0, m1, k⟩ := h
    obtain ⟨n, rfl⟩ := Int.eq_ofNat_of_zero_le m0
    have hu5 := hr.un
    have hu5 : (A.deeper (envOfC "_law_looks" (defScope sLooks) s.heap.objs.size f cdv)).units + 65 < cLine := by omega
    refine ⟨_, pss_cons (ps_set (i := 3) scLs.nd rfl (Or.inl rfl) (pe_lst pa_nil))
            (pss_cons (ps_for PassesOwn.never rfl (pi_range1 rfl T.range (pa_cons (pv 2) pa_nil)) (pg_name (i := 4) scLs.nd rfl (Or.inl rfl)) (pss_cons (ps_set (i := 5) scLs.nd rfl (Or.inl rfl) (pe_call GLo (hr.mono (by decide)) rfl aLo.m aLo.k aLo.b .nil pass0 (pa_cons (pv 0) (pa_cons (pv 1) pa_nil))))
            (pss_one (ps_expr (pe_bm PySem.F.plainAttrs_list PySem.F.slot_list_extend PySem.F.type_list_extend mt_extend (pv 3) (pa_cons (pe_op op_rep (pe_lst (pa_cons (pv 5) pa_nil)) (pe_callTy call_int1 (by rfl) T.int (by decide +kernel) (pa_cons (pe_cmpR (op_notInD hu5) (pv 5) (pv 3) (by rfl)) pa_nil))) pa_nil))))))
            (pss_one (ps_ret (pv 3)))), ?_⟩
    refine ⟨Nat.zero_le _, fun D hD => ?_⟩
    have nD := S.ne_new hD
    refine ⟨_, rfl, n, rfl, by omega, by omega, for_range (lo := 0) (n := n) (fun i σ H' => ∃ x4 x5 ks, σ = [some (.ref st), some (.ref p), some (.int n), some (.ref D), x4, x5] ∧ ks.length ≤ i ∧ (∀ k ∈ ks, LkOn zs 3 k) ∧ ks.Nodup ∧ LksL H' D ks ∧ But st l H H' ∧ ∃ c', Strm H' st l c' ∧ c' ≤ c + 6 * i)
      ⟨none, none, [], rfl, Nat.zero_le _, by simp, List.nodup_nil, ⟨[], upd_same, rfl, fun i v k h => by cases h⟩, But.same (same_mk hD), c, S.up (same_mk hD), by omega⟩ ?_ ?_⟩
    · rintro i _ H1 hi ⟨x4, x5, ks, rfl, hkl, hks, nd, ⟨ws, hw, hwl, hwa⟩, B1, c1, S1, hc1⟩
      refine ⟨_, rfl, _, rfl, st, l, p, c1, zs, rfl, S1, by omega, L.but B1, z0, z1, nm, fun t k' H2 c2 ok' ht0 ht B2 S2 hc2 => ?_⟩
      have hw2 := B2 _ _ hw nD.1 nD.2
      have hwa2 : ∀ (i : Nat) (v : V) (k : Lk), ws[i]? = some v → ks[i]? = some k → ∃ t, v = .ref t ∧ H2 t = some (.tup (lkV k)) := fun i v k hv hk => by
        obtain ⟨t, e, h⟩ := hwa i v k hv hk
        obtain ⟨ns, a, m, ⟨h1, h2⟩, _⟩ := S1.ex
        exact ⟨t, e, B2 _ _ h (ne_of h h1 (by intro z; cases z)) (ne_of h h2 (by intro z; cases z))⟩
      have kw : ∀ k ∈ ks, LkW k := fun k hk => lkOn_w nm (by decide) (hks k hk)
      refine ⟨_, rfl, .inl ⟨rfl, _, SqL.of hw2⟩, _, rfl, by show 1 ≤ sizeLine; decide, fun q hq => ?_⟩
      have sq := same_mk (o := .lst [.ref t]) hq
      have hw3 := sq _ _ hw2
      refine ⟨_, rfl, _, rfl, lkD k', ks.map lkD, lk_dp (sq _ _ ht), .lst (SqL.of hw3) (dp_lks hwl fun i v k hv hk => ?_), lkD_shaped (lkOn_w nm (by decide) ok'), shaped_lks ks kw, .inr ⟨_, rfl, q, _, [.ref t], rfl, rfl, upd_same, ?_⟩⟩
      · obtain ⟨t', e, h⟩ := hwa2 i v k hv hk
        exact ⟨t', e, sq _ _ h⟩
      have eb : (!(ks.map lkD).any fun z => PyData.eqv z (lkD k')) = decide (k' ∉ ks) := by
        have e1 : ((ks.map lkD).any fun z => PyData.eqv z (lkD k')) = decide (k' ∈ ks) := by
          rw [List.any_map, Bool.eq_iff_iff, List.any_eq_true, decide_eq_true_iff]
          constructor
          · rintro ⟨x, hx, e⟩
            have e2 := eqv_lk (kw x hx) (lkOn_w nm (by decide) ok')
            rw [show PyData.eqv (lkD x) (lkD k') = true from e] at e2
            obtain rfl := of_decide_eq_true e2.symm
            exact hx
          · intro hx
            exact ⟨k', hx, (eqv_lk (kw k' hx) (kw k' hx)).trans (decide_eq_true rfl)⟩
        rw [e1, decide_not]
      generalize (!(ks.map lkD).any fun z => PyData.eqv z (lkD k')) = b at eb ⊢
      refine ⟨by cases b <;> decide, by cases b <;> decide, by cases b <;> first | exact Nat.zero_le _ | exact (show 1 ≤ sizeLine by decide), fun r hr' => ?_⟩
      have sr := same_mk (o := .lst (List.replicate (if b = true then 1 else 0 : Int).toNat [V.ref t]).flatten) hr'
      have hw4 := sr _ _ hw3
      have nq := S2.ne_new hq
      have S3 := S2.up sq
      have nr := S3.ne_new hr'
      have Dr : D ≠ r := ne_of_none hw3 hr'
      have HD : H D = none := hD
      have wl : ws.length ≤ 100 := by omega
      refine ⟨D, r, ws, _, rfl, rfl, hw4, upd_same, ?_, _, _, if b = true then ks ++ [k'] else ks, rfl, ?_, ?_, ?_, ⟨ws ++ (List.replicate (if b = true then 1 else 0 : Int).toNat [V.ref t]).flatten, upd_same, ?_, ?_⟩, ?_, c2, ?_, by omega⟩
      · cases b
        · exact Nat.le_trans (show ws.length + 0 ≤ 101 by omega) (by decide)
        · exact Nat.le_trans (show ws.length + 1 ≤ 101 by omega) (by decide)
      · cases b
        · exact Nat.le_succ_of_le hkl
        · show (ks ++ [k']).length ≤ i + 1
          rw [List.length_append]
          exact Nat.succ_le_succ hkl
      · intro x hx
        cases b
        · exact hks x hx
        · rcases List.mem_append.mp hx with e | e
          · exact hks x e
          · rw [List.mem_singleton.mp e]
            exact ok'
      · cases b
        · exact nd
        · have no := of_decide_eq_true eb.symm
          exact List.nodup_append.mpr ⟨nd, List.nodup_cons.mpr ⟨List.not_mem_nil, List.nodup_nil⟩, fun x hx y hy e => no (by rw [List.mem_singleton.mp hy] at e; rw [← e]; exact hx)⟩
      · cases b
        · show (ws ++ []).length = ks.length
          rw [List.append_nil, hwl]
        · show (ws ++ [V.ref t]).length = (ks ++ [k']).length
          rw [List.length_append, List.length_append, hwl]
          rfl
      · have up : ∀ t' k, H2 t' = some (.tup (lkV k)) → upd (upd (upd H2 q (.lst [.ref t])) r (.lst (List.replicate (if b = true then 1 else 0 : Int).toNat [V.ref t]).flatten)) D (.lst (ws ++ (List.replicate (if b = true then 1 else 0 : Int).toNat [V.ref t]).flatten)) t' = some (.tup (lkV k)) := fun t' k h => by
          rw [upd_ne (ne_of h hw2 (by intro z; cases z))]
          exact sr _ _ (sq _ _ h)
        intro m v k'' hv hk
        cases b
        · have hv : (ws ++ [])[m]? = some v := hv
          rw [List.append_nil] at hv
          obtain ⟨t', e, h⟩ := hwa2 m v k'' hv hk
          exact ⟨t', e, up _ _ h⟩
        · have hv : (ws ++ [V.ref t])[m]? = some v := hv
          have hk : (ks ++ [k'])[m]? = some k'' := hk
          by_cases e : m < ws.length
          · rw [List.getElem?_append_left e] at hv
            rw [List.getElem?_append_left (by omega)] at hk
            obtain ⟨t', e, h⟩ := hwa2 m v k'' hv hk
            exact ⟨t', e, up _ _ h⟩
          · rw [List.getElem?_append_right (by omega)] at hv hk
            have := (List.getElem?_eq_some_iff.mp hv).1
            rw [List.length_singleton] at this
            have e0 : m - ws.length = 0 := by omega
            have e1 : m - ks.length = 0 := by omega
            rw [e0] at hv
            rw [e1] at hk
            cases hv
            cases hk
            exact ⟨t, rfl, up _ _ ht⟩
      · intro x o hx n1 n2
        have xD : x ≠ D := fun z => by
          rw [z, HD] at hx
          cases hx
        rw [upd_ne xD]
        exact sr _ _ (sq _ _ (B2 _ _ (B1 _ _ hx n1 n2) n1 n2))
      · exact (S3.up sr).put nD
    · rintro _ H2 ⟨x4, x5, ks, rfl, hkl, hks, nd, hL, B2, c2, S2, hc2⟩
      exact ⟨_, rfl, k D ks H2 c2 (by omega) hks nd hD hL B2 S2 (by omega)⟩
end
end T5

set_option maxHeartbeats 3900000
namespace T5
open PySem PySem.Spec PyProof.Rows L2 TL
open C8 (pss_cut tCut pe_gc)
open CB
theorem lt_tri : ∀ a b : List Nat, a < b ∨ a = b ∨ b < a
  | [], [] => .inr (.inl rfl)
  | [], y :: b => .inl (List.nil_lt_cons y b)
  | x :: a, [] => .inr (.inr (List.nil_lt_cons x a))
  | x :: a, y :: b => by
    rcases Nat.lt_trichotomy x y with h | h | h
    · exact .inl (List.cons_lt_cons_iff.mpr (.inl h))
    · subst h
      rcases lt_tri a b with g | g | g
      · exact .inl (List.cons_lt_cons_iff.mpr (.inr ⟨rfl, g⟩))
      · exact .inr (.inl (by rw [g]))
      · exact .inr (.inr (List.cons_lt_cons_iff.mpr (.inr ⟨rfl, g⟩)))
    · exact .inr (.inr (List.cons_lt_cons_iff.mpr (.inl h)))
theorem lt_tr : ∀ a b c : List Nat, a < b → b < c → a < c := fun _ _ _ h g => List.lt_trans h g
theorem rising_pw : ∀ (p : Str) (l : List Str), risingS p l = true → (p :: l).Nodup → (p :: l).Pairwise (fun a b : Str => a.cps.toList < b.cps.toList)
  | p, [], _, _ => List.pairwise_singleton _ _
  | p, x :: r, h, nd => by
    have h : (!ltCps x.cps.toList p.cps.toList && risingS x r) = true := h
    rw [Bool.and_eq_true] at h
    obtain ⟨h1, h2⟩ := h
    rw [ltCps_eq] at h1
    have nd2 := List.nodup_cons.mp nd
    have ih := rising_pw x r h2 nd2.2
    have px : p.cps.toList < x.cps.toList := by
      rcases lt_tri p.cps.toList x.cps.toList with g | g | g
      · exact g
      · exact absurd (by rw [ext_tl g]; exact List.mem_cons_self) nd2.1
      · rw [decide_eq_true g] at h1
        cases h1
    refine List.pairwise_cons.mpr ⟨fun y hy => ?_, ih⟩
    rcases List.mem_cons.mp hy with e | e
    · rw [e]
      exact px
    · exact lt_tr _ _ _ px ((List.pairwise_cons.mp ih).1 y e)
theorem sorted_pw {l : List Str} (h : sortedS l = true) (nd : l.Nodup) : l.Pairwise (fun a b : Str => a.cps.toList < b.cps.toList) := by
  cases l with
  | nil => exact .nil
  | cons p r => exact rising_pw p r h nd
theorem cut_take (xs : List V) (d : Nat) : cutV xs none (some (d : Int)) = xs.take d := by
  show (xs.drop (HT.sIx xs.length 0 none)).take (HT.sIx xs.length xs.length (some (d : Int)) - HT.sIx xs.length 0 none) = xs.take d
  rw [HT.sIx_none, HT.sIx_nat, List.drop_zero, Nat.sub_zero]
  by_cases h : d ≤ xs.length
  · rw [Nat.min_eq_left h]
  · rw [Nat.min_eq_right (by omega), List.take_of_length_le (Nat.le_refl _), List.take_of_length_le (by omega)]
section
variable {P : Program} {w : World} {K : PySem.W.Frag} {mg : Str → Option Value} {base : Heap} {fD fP fPa fFr fMx fTe fLo : Addr} {fdD fdP fdPa fdFr fdMx fdTe fdLo : FuncData}
theorem scSo : FnScope ["_law_stream", "_law_pool_here", "_law_look_here", "_law_names", "_law_found", "_law_name"] ["_law_stream", "_law_pool_here", "_law_look_here"] (defScope sSome) := ⟨rfl, rfl, rfl, by decide +kernel, rfl, by decide +kernel, by decide +kernel⟩
theorem ok_some {f : Addr} {fd : FuncData} (F : Fun K "_law_some_answer" "_law_some_answer" sSome f fd) (T : TB mg) (aD : aD' K mg fD fdD) (aMx : At K mg "_law_mixed" fMx fdMx ["_law_stream", "_law_things"]) (aTe : At K mg "_law_text" fTe fdTe ["_law_stream"])
    (GD : FnOk P w K mg base CX0 1 fD fdD ["_law_stream", "_law_many"] spDraw) (GMx : FnOk P w K mg base CX0 2 fMx fdMx ["_law_stream", "_law_things"] spMixed) (GTe : FnOk P w K mg base CX0 2 fTe fdTe ["_law_stream"] spText) : FnOk P w K mg base CX0 3 f fd ["_law_stream", "_law_pool_here", "_law_look_here"] spSome := by
  refine F.ok scSo (fun vs H Q E h => ?_) (fun cdv A outer s H vs Q E hr h => ?_)
  · obtain ⟨st, l, p, t, c, zs, k, rfl, _⟩ := h
    rfl
  · have hu := hr.units
    obtain ⟨st, l, p, t, c, zs, k, rfl, S, hc, L, znd, z0, z1, nm, ht, kw, fin⟩ := h
    refine ⟨_, pss_cons (ps_if (pt_cmpR op_eq (pe_ix ix_tup (pv 2) pe_int (fun _ _ => rfl)) pe_str (nomark _)) (pss_cut (ps_if (PW.pt (pw_and (pt_cmpR op_ne (pe_ix ix_tup (pv 2) pe_int (fun _ _ => rfl)) pe_str (nomark _)) (pw_and1 (pt_cmpR op_eq (pe_call GD (hr.mono (by decide)) rfl aD.m aD.k aD.b .nil pass0 (pa_cons (pv 0) (pa_cons pe_int pa_nil))) pe_int (nomark _))))) (pss_one (ps_ret pe_non)) (pss_nil))
            (pss_cons (ps_set (i := 3) scSo.nd rfl (Or.inl rfl) (pe_callB cr_sortedS (by rfl) T.sorted (by decide +kernel) (pa_cons (pe_slice sl_list (pe_call GMx (hr.mono (by decide)) rfl aMx.m aMx.k aMx.b .nil pass0 (pa_cons (pv 0) (pa_cons (pv 1) pa_nil))) po_none (po_some (pe_call GD (hr.mono (by decide)) rfl aD.m aD.k aD.b .nil pass0 (pa_cons (pv 0) (pa_cons pe_int pa_nil))))) pa_nil)))
            (pss_cons (ps_set (i := 4) scSo.nd rfl (Or.inl rfl) (pe_callTy call_tuple_of (by rfl) T.tuple (by decide +kernel) (pa_cons (pe_lc (own := [("_law_name", 5)]) (g := gName 5) (tt := tYes) rfl scSo.nd (pi_list (pv 3)) (blkOk_by (own := [("_law_name", 5)]) (N := ["_law_stream", "_law_pool_here", "_law_look_here", "_law_names", "_law_found", "_law_name"]) (sc := defScope sSome) (by decide +kernel)) (fun _ _ _ _ _ => (pg_name (i := 5) scSo.nd rfl (Or.inl rfl))) (fun _ _ _ _ _ => pts_nil) (fun _ _ _ _ _ => (by exact (pe_op op_add_str (pv 5) (pe_ix (ix_listK (K0 := K) rfl) (pe_lst (pa_cons pe_str (pa_cons pe_str pa_nil))) (pe_call GD (hr.mono (by decide)) rfl aD.m aD.k aD.b .nil pass0 (pa_cons (pv 0) (pa_cons pe_int pa_nil))) (fun _ _ => rfl)))))) pa_nil)))
            (pss_one (ps_ret (pe_ifExp (PW.pt (pw_or (pt_cmpR (op_neD hu) (pv 4) (pe_tup pa_nil) (nomark _)) (pw_or1 (pt_cmpR op_eq (pe_ix ix_tup (pv 2) pe_int (fun _ _ => rfl)) pe_str (nomark _))))) (pv 4) (pe_tup (pa_cons (pe_ix ix_list (pv 1) pe_int (fun _ _ => rfl)) pa_nil)))))))) (pss_nil))
            (pss_cons (ps_if (PW.pt (pw_and (pt_cmpR op_ne (pe_ix ix_tup (pv 2) pe_int (fun _ _ => rfl)) pe_str (nomark _)) (pw_and1 (pt_cmpR op_eq (pe_call GD (hr.mono (by decide)) rfl aD.m aD.k aD.b .nil pass0 (pa_cons (pv 0) (pa_cons pe_int pa_nil))) pe_int (nomark _))))) (pss_one (ps_ret pe_non)) (pss_nil))
            (pss_one (ps_ret (pe_ifExp (pt_cmpR op_eq (pe_ix ix_tup (pv 2) pe_int (fun _ _ => rfl)) pe_str (nomark _)) (pe_ix ix_list (pe_lst (pa_cons pe_str (pa_cons pe_str (pa_cons pe_str pa_nil)))) (pe_call GD (hr.mono (by decide)) rfl aD.m aD.k aD.b .nil pass0 (pa_cons (pv 0) (pa_cons pe_int pa_nil))) (fun _ _ => rfl)) (pe_call GTe (hr.mono (by decide)) rfl aTe.m aTe.k aTe.b .nil pass0 (pa_cons (pv 0) pa_nil)))))), ?_⟩
    have nt : t ≠ st ∧ t ≠ l := by
      obtain ⟨ns, a, m, ⟨h1, h2⟩, _⟩ := S.ex
      exact ⟨ne_of ht h1 (by intro z; cases z), ne_of ht h2 (by intro z; cases z)⟩
    have tx_ok : ∀ z ∈ texts, Oka z ∧ z ≠ "zzz" := by decide +kernel
    by_cases isl : ∃ q, k = .ls q
    · obtain ⟨q, rfl⟩ := isl
      -- a folder
      refine ⟨_, rfl, t, _, 0, _, rfl, rfl, SqT.of ht, atI_nat (j := 0) rfl, rfl, _, rfl, iteY rfl ?_⟩
      -- if look[1] != '' and draw(3) == 0: return None
      refine ⟨fun σ H1 => σ = [some (.ref st), some (.ref p), some (.ref t), none, none, none] ∧ But st l H H1 ∧ ∃ c1, Strm H1 st l c1 ∧ c1 ≤ c + 1, ⟨_, rfl, t, _, 1, _, rfl, rfl, SqT.of ht, atI_nat (j := 1) rfl, rfl, _, rfl, ?_⟩, ?_⟩
      · by_cases eq : q = []
        · subst eq
          exact iteF ⟨rfl, fun _ _ e _ _ => e, c, S, by omega⟩
        · rw [decide_eq_false (show ¬ V.str (js q) = V.str "" from fun z => js_ne kw.1 eq (V.str.inj z))]
          refine iteT ⟨_, rfl, st, l, c, _, rfl, S, by omega, by decide, by decide, fun d H1 d0 d1 B1 S1 => ⟨rfl, _, rfl, ite2 (fun _ => ?_) (fun _ => ⟨rfl, B1, c + 1, S1, by omega⟩)⟩⟩
          exact fin .non .no H1 (c + 1) rfl eq trivial B1 S1 (by omega)
      rintro _ H1 ⟨rfl, B1, c1, S1, hc1⟩
      -- names = sorted(mixed(..)[:draw(3)])
      refine ⟨_, rfl, _, rfl, st, l, p, c1, zs, rfl, S1, by omega, L.but B1, by omega, fun D ys H2 pm hD LD B2 S2 => ⟨_, rfl, st, l, c1 + zs.length, _, rfl, S2, by omega, by decide, by decide, fun d H3 d0 d1 B3 S3 => ?_⟩⟩
      obtain ⟨n, rfl⟩ := Int.eq_ofNat_of_zero_le d0
      have LD3 := LD.but B3
      refine ⟨_, rfl, D, _, rfl, SqL.of LD3.h, fun u hu => ?_⟩
      rw [cut_take, ← List.map_take]
      have su := same_mk (o := .lst ((ys.take n).map V.str)) hu
      have ynd : ys.Nodup := pm.nodup_iff.mpr znd
      refine ⟨u, ys.take n, rfl, SqL.of upd_same, ?_, fun xs p' pm' so hp' => ?_⟩
      · rw [List.length_take]
        omega
      have xnd : xs.Nodup := pm'.nodup_iff.mpr (ynd.sublist (List.take_sublist n ys))
      have xlen : xs.length ≤ 2 := by
        have := pm'.length_eq
        rw [List.length_take] at this
        omega
      have xz : ∀ x ∈ xs, x ∈ zs := fun x hx => pm.mem_iff.mp (List.mem_of_mem_take (pm'.mem_iff.mp hx))
      have xpw := sorted_pw so xnd
      have sp := same_mk (o := .lst (xs.map V.str)) hp'
      have B4 : But st l H1 (upd (upd H3 u (.lst ((ys.take n).map V.str))) p' (.lst (xs.map V.str))) := ((B2.trans B3).trans (But.same su)).trans (But.same sp)
      have S4 := (S3.up su).up sp
      have np' := (S3.up su).ne_new hp'
      -- found = tuple([name + ['', '/'][draw(2)] for name in names])
      refine ⟨_, rfl, p', rfl, ⟨_, SqL.of upd_same⟩, fun D2 hD2 => ?_⟩
      have nD2 := S4.ne_new hD2
      have hp4 : (upd (upd H3 u (.lst ((ys.take n).map V.str))) p' (.lst (xs.map V.str))) p' = some (.lst (xs.map V.str)) := upd_same
      generalize hH4 : (upd (upd H3 u (.lst ((ys.take n).map V.str))) p' (.lst (xs.map V.str))) = H4 at *
      have pD2 : p' ≠ D2 := ne_of_none hp4 hD2
      refine lc_list (K := K) (a := p') (xs := xs.map V.str) (fun i H' => But st l H4 H' ∧ Strm H' st l (c1 + zs.length + 1 + i) ∧ ∃ bs : List (Str × Bool), bs.map Prod.fst = xs.take i ∧ H' D2 = some (.lst (bs.map entV)))
        ⟨But.same (same_mk hD2), S4.up (same_mk hD2), [], rfl, upd_same⟩ (fun i H' _ q => SqL.of (q.1 _ _ hp4 np'.1 np'.2)) ?_ ?_
      · rintro i x H5 hx ⟨B5, S5, bs, hbs, hb5⟩
        rw [List.getElem?_map] at hx
        match hxi : xs[i]? with
        | none =>
          rw [hxi] at hx
          cases hx
        | some y =>
          rw [hxi] at hx
          cases hx
          have hi := (List.getElem?_eq_some_iff.mp hxi).1
          have ny : IsNm y := nm y (xz y (List.mem_of_getElem? hxi))
          refine ⟨wipe1 _, _, rfl, by show 2 ≤ sizeLine; decide, fun r hr' => ⟨_, rfl, st, l, c1 + zs.length + 1 + i, _, rfl, S5.up (same_mk hr'), by omega, by decide, by decide, fun d H6 e0 e1 B6 S6 => ?_⟩⟩
          have nr := S5.ne_new hr'
          have hr6 := B6 _ _ upd_same nr.1 nr.2
          have hb6 := B6 _ _ (same_mk (o := .lst [.str "", .str "/"]) hr' _ _ hb5) nD2.1 nD2.2
          have done : ∀ b : Bool, ∃ acc, H6 D2 = some (.lst acc) ∧ acc.length < sizeLine ∧ (But st l H4 (upd H6 D2 (.lst (acc ++ [.str (ent y b)]))) ∧ Strm (upd H6 D2 (.lst (acc ++ [.str (ent y b)]))) st l (c1 + zs.length + 1 + (i + 1)) ∧
              ∃ bs : List (Str × Bool), bs.map Prod.fst = xs.take (i + 1) ∧ upd H6 D2 (.lst (acc ++ [.str (ent y b)])) D2 = some (.lst (bs.map entV))) := fun b => by
            have bl : bs.length ≤ 2 := by
              have := congrArg List.length hbs
              rw [List.length_map, List.length_take] at this
              omega
            refine ⟨_, hb6, ?_, ((B5.trans (But.same (same_mk hr'))).trans B6).put hD2, (by have := S6.put (p := D2) (o := .lst (bs.map entV ++ [.str (ent y b)])) nD2; exact this), bs ++ [(y, b)], ?_, ?_⟩
            · rw [List.length_map]
              exact Nat.lt_of_lt_of_le (show bs.length < 3 by omega) (by decide)
            · rw [List.map_append, hbs, List.take_succ, hxi]
              rfl
            · rw [upd_same, List.map_append]
              rfl
          obtain ⟨m, rfl⟩ := Int.eq_ofNat_of_zero_le e0
          have n8 := ny.2.1
          match m, e1 with
          | 0, _ =>
            refine ⟨r, _, _, _, rfl, rfl, SqL.of hr6, atI_nat (j := 0) rfl, y, "", rfl, rfl, Nat.le_trans (show y.length + 0 ≤ 8 by omega) (by decide), ?_⟩
            rw [show y ++ ("" : Str) = ent y false from ext_tl (by rw [tl_append]; exact List.append_nil _)]
            exact done false
          | 1, _ =>
            refine ⟨r, _, _, _, rfl, rfl, SqL.of hr6, atI_nat (j := 1) rfl, y, "/", rfl, rfl, Nat.le_trans (show y.length + 1 ≤ 9 by omega) (by decide), ?_⟩
            exact done true
          | m + 2, e1 => omega
      rintro H5 ⟨B5, S5, bs, hbs, hb5⟩
      rw [List.length_map] at hbs S5
      rw [List.take_length] at hbs
      have bz : ∀ e ∈ bs, e.1 ∈ xs := fun e he => by
        rw [← hbs]
        exact List.mem_map.mpr ⟨e, he, rfl⟩
      have bl : bs.length ≤ 2 := by
        have := congrArg List.length hbs
        rw [List.length_map] at this
        omega
      have bents : Ents bs := ⟨fun e he => nm _ (xz _ (bz e he)), by rw [hbs]; exact xpw, by omega⟩
      refine ⟨D2, _, rfl, .inl ⟨SqL.of hb5, fun f hf => ?_⟩⟩
      have sf := same_mk (o := .tup (bs.map entV)) hf
      have Bf : But st l H (upd H5 f (.tup (bs.map entV))) := B1.trans ((B4.trans B5).trans (But.same sf))
      have Sf := S5.up sf
      have htf := Bf _ _ ht nt.1 nt.2
      have Lf := L.but Bf
      refine ⟨_, rfl, by exact Nat.zero_le _, fun g hg => ?_⟩
      have sg := same_mk (o := .tup []) hg
      have dpb : Dp K (upd (upd H5 f (.tup (bs.map entV))) g (.tup [])) (.ref f) (anD (.es bs)) := an_dp (a := .es bs) ⟨f, rfl, sg _ _ upd_same⟩
      refine ⟨_, strD [], dpb, .tup (SqT.of (xs := []) upd_same) .nil, anD_shaped ⟨bents.1, by omega⟩, shaped_strs [] (by simp), ?_⟩
      rw [show PyData.eqv (anD (.es bs)) (strD []) = decide (bs = []) by
        show PyData.eqv (strD _) (strD []) = _
        rw [eqv_strD, decide_eq_decide]
        exact List.map_eq_nil_iff]
      have Bg : But st l H (upd (upd H5 f (.tup (bs.map entV))) g (.tup [])) := Bf.trans (But.same sg)
      have Sg := Sf.up sg
      have out : (bs ≠ [] ∨ q = []) → Q (.ref f) (upd (upd H5 f (.tup (bs.map entV))) g (.tup [])) := fun ho => fin (.ref f) (.es bs) _ _ ⟨f, rfl, sg _ _ upd_same⟩ ⟨bents, ho⟩ ⟨fun e he => xz _ (bz e he), by omega⟩ Bg Sg (by omega)
      by_cases eb : bs = []
      · rw [decide_eq_true eb]
        refine ⟨_, rfl, iteF ⟨_, rfl, t, _, 1, _, rfl, rfl, SqT.of (sg _ _ htf), atI_nat (j := 1) rfl, rfl, _, rfl, ?_⟩⟩
        by_cases eq : q = []
        · subst eq
          exact iteY rfl ⟨_, rfl, out (.inr rfl)⟩
        · refine iteN (fun z => js_ne kw.1 eq (V.str.inj z)) ⟨_, rfl, p, zs.map V.str, 0, .str zs[0], rfl, rfl, SqL.of (sg _ _ Lf.h), atI_nat (j := 0) (by rw [List.getElem?_map, List.getElem?_eq_getElem z0]; rfl), by show 1 ≤ sizeLine; decide, fun e he => ?_⟩
          have mz : zs[0] ∈ zs := List.getElem_mem z0
          have se := same_mk (o := .tup [.str zs[0]]) he
          exact fin (.ref e) (.es [(zs[0], false)]) _ _ ⟨e, rfl, upd_same⟩ ⟨⟨fun x hx => by rw [List.mem_singleton.mp hx]; exact nm _ mz, List.pairwise_singleton _ _, (show 1 ≤ 1000 by decide)⟩, .inl (by simp)⟩ ⟨fun x hx => by rw [List.mem_singleton.mp hx]; exact mz, (show 1 ≤ 20 by decide)⟩ (Bg.trans (But.same se)) (Sg.up se) (by omega)
      · rw [decide_eq_false eb]
        exact ⟨_, rfl, iteT ⟨_, rfl, out (.inl eb)⟩⟩
    by_cases ist : k = .tl
    · subst ist
      refine ⟨_, rfl, t, _, 0, _, rfl, rfl, SqT.of ht, atI_nat (j := 0) rfl, rfl, _, rfl, iteN (by decide +kernel) ⟨_, rfl, t, _, 0, _, rfl, rfl, SqT.of ht, atI_nat (j := 0) rfl, rfl, _, rfl, iteF ?_⟩⟩
      refine ⟨_, rfl, t, _, 0, _, rfl, rfl, SqT.of ht, atI_nat (j := 0) rfl, rfl, _, rfl, iteY rfl ⟨by show 3 ≤ sizeLine; decide, fun u hu => ?_⟩⟩
      have nu := S.ne_new hu
      have su := same_mk (o := .lst [.str "", .str "1", .str "2"]) hu
      refine ⟨_, rfl, st, l, c, _, rfl, S.up su, by omega, by decide, by decide, fun d H1 d0 d1 B1 S1 => ?_⟩
      have hu1 := B1 _ _ upd_same nu.1 nu.2
      have d3 : d < (([("" : Str), "1", "2"] : List Str).length : Int) := d1
      obtain ⟨i, z, hi, ha⟩ := at_int (xs := ([("" : Str), "1", "2"] : List Str)) d0 d3
      have hz : Oka z ∧ z ≠ "zzz" := by
        have := List.mem_of_getElem? hi
        have all : ∀ z ∈ ([("" : Str), "1", "2"] : List Str), Oka z ∧ z ≠ "zzz" := by decide +kernel
        exact all z this
      exact ⟨u, _, d, .str z, rfl, rfl, SqL.of hu1, at_map (f := V.str) ha, fin (.str z) (.tx z) H1 (c + 1) rfl trivial hz ((But.same su).trans B1) S1 (by omega)⟩
    obtain ⟨wd, r, hkv, n1, n2, o1, o2⟩ : ∃ (wd : Str) (r : List V), lkV k = .str wd :: r ∧ wd ≠ "list" ∧ wd ≠ "tool" ∧ AnOk k .no ∧ ∀ z, AnOk k (.tx z) := by
      cases k with
      | rd q => exact ⟨"read", _, rfl, by decide +kernel, by decide +kernel, trivial, fun _ => trivial⟩
      | ls q => exact absurd ⟨q, rfl⟩ isl
      | se n => exact ⟨"setting", _, rfl, by decide +kernel, by decide +kernel, trivial, fun _ => trivial⟩
      | tl => exact absurd rfl ist
    rw [hkv] at ht
    refine ⟨_, rfl, t, _, 0, _, rfl, rfl, SqT.of ht, atI_nat (j := 0) rfl, rfl, _, rfl, iteN (fun z => n1 (V.str.inj z)) ⟨_, rfl, t, _, 0, _, rfl, rfl, SqT.of ht, atI_nat (j := 0) rfl, rfl, _, rfl, ?_⟩⟩
    rw [decide_eq_false (show ¬ V.str wd = V.str "tool" from fun z => n2 (V.str.inj z))]
    refine iteT ⟨_, rfl, st, l, c, _, rfl, S, by omega, by decide, by decide, fun d H1 d0 d1 B1 S1 => ⟨rfl, _, rfl, ite2 (fun _ => ?_) (fun _ => ?_)⟩⟩
    · exact fin .non .no H1 (c + 1) rfl o1 trivial B1 S1 (by omega)
    · exact ⟨_, rfl, t, _, 0, _, rfl, rfl, SqT.of (B1 _ _ ht nt.1 nt.2), atI_nat (j := 0) rfl, rfl, _, rfl, iteN (fun z => n2 (V.str.inj z)) ⟨_, rfl, st, l, c + 1, rfl, S1, by omega, fun z H2 hz B2 S2 => fin (.str z) (.tx z) H2 (c + 1 + 1) rfl (o2 z) (tx_ok z hz) (B1.trans B2) S2 (by omega)⟩⟩
end
end T5

set_option maxHeartbeats 3900000
namespace T5
open PySem PySem.Spec PyProof.Rows L2 TL
open C8 (pss_cut tCut pe_gc)
open CB
def TxtOf : Lk × An → List Str → Prop
  | (.rd _, .no), _ => False
  | (.rd q, _), p => p = q
  | (.ls q, .es l), p => ∃ n, (n, false) ∈ l ∧ p = q ++ [n]
  | _, _ => False
def DirOf : Lk × An → List Str → Prop
  | (.ls q, .es l), p => p = q ∨ ∃ n, (n, true) ∈ l ∧ p = q ++ [n]
  | _, _ => False
def TM (ss : List (Lk × An)) (fi : List (List Str)) (p : List Str) : Prop := p ∈ fi ∨ ∃ s ∈ ss, TxtOf s p
def D0M (ss : List (Lk × An)) (fo : List (List Str)) (p : List Str) : Prop := p = [] ∨ p ∈ fo ∨ ∃ s ∈ ss, DirOf s p
def DM (ss : List (Lk × An)) (fi fo : List (List Str)) (p : List Str) : Prop := D0M ss fo p ∨ (p ≠ [] ∧ ∃ r, (TM ss fi r ∨ D0M ss fo r) ∧ ben r p = true)
def pV (p : List Str) : V := .str (js p)
def pkey (p : List Str) : L2.Key := Sum.inr (js p)
def KA (kvs : List (L2.Key × V)) (B : Nat) (T : List Str → Prop) : Prop := (∀ kv ∈ kvs, ∃ p, kv.1 = pkey p ∧ Nms p ∧ p.length ≤ B) ∧ ∀ p, Nms p → ((valV kvs (pkey p)).isSome = true ↔ T p)
def DA (xs : List (List Str)) (B : Nat) (D : List Str → Prop) : Prop := (∀ p ∈ xs, Nms p ∧ p.length ≤ B) ∧ ∀ p, p ∈ xs ↔ D p
theorem pkey_inj {p q : List Str} (hp : Nms p) (hq : Nms q) : pkey p = pkey q ↔ p = q := ⟨fun e => js_inj hp hq (Sum.inr.inj e), fun e => by rw [e]⟩
theorem KA.put {kvs : List (L2.Key × V)} {B : Nat} {T : List Str → Prop} (h : KA kvs B T) {p : List Str} (hp : Nms p) (hl : p.length ≤ B) (v : V) : KA (putK kvs (pkey p) v) B (fun x => T x ∨ x = p) := by
  refine ⟨fun kv hkv => ?_, fun x hx => ?_⟩
  · unfold putK at hkv
    by_cases a : (kvs.any fun kv => decide (kv.1 = pkey p)) = true
    · rw [if_pos a] at hkv
      obtain ⟨kv', h1, rfl⟩ := List.mem_map.mp hkv
      by_cases e : kv'.1 = pkey p
      · rw [if_pos e]
        exact h.1 kv' h1
      · rw [if_neg e]
        exact h.1 kv' h1
    · rw [if_neg a] at hkv
      rcases List.mem_append.mp hkv with g | g
      · exact h.1 kv g
      · rw [List.mem_singleton.mp g]
        exact ⟨p, rfl, hp, hl⟩
  · rw [valV_put]
    by_cases e : x = p
    · subst e
      rw [if_pos rfl]
      exact ⟨fun _ => .inr rfl, fun _ => rfl⟩
    · rw [if_neg fun z => e ((pkey_inj hx hp).mp z), h.2 x hx]
      exact ⟨.inl, fun z => z.resolve_right e⟩
theorem KA.keys : ∀ {kvs : List (L2.Key × V)} {B : Nat}, (∀ kv ∈ kvs, ∃ p, kv.1 = pkey p ∧ Nms p ∧ p.length ≤ B) → ∃ tp : List (List Str), (kvs.map fun kv => kV kv.1) = tp.map pV ∧ tp.length = kvs.length ∧ (∀ p ∈ tp, Nms p ∧ p.length ≤ B) ∧ ∀ p, p ∈ tp → (valV kvs (pkey p)).isSome = true
  | [], _, _ => ⟨[], rfl, rfl, by simp, by simp⟩
  | kv :: r, B, h => by
    obtain ⟨tp, h1, h2, h3, h4⟩ := KA.keys (kvs := r) (B := B) fun x hx => h x (List.mem_cons_of_mem _ hx)
    obtain ⟨p, e, hp, hl⟩ := h kv List.mem_cons_self
    refine ⟨p :: tp, ?_, by rw [List.length_cons, List.length_cons, h2], ?_, ?_⟩
    · rw [List.map_cons, List.map_cons, h1, e]
      rfl
    · intro x hx
      rcases List.mem_cons.mp hx with g | g
      · rw [g]
        exact ⟨hp, hl⟩
      · exact h3 x g
    · intro x hx
      by_cases q : kv.1 = pkey x
      · rw [valV_pos q]
        rfl
      · rw [valV_neg q]
        rcases List.mem_cons.mp hx with g | g
        · exact absurd (by rw [e, g]) q
        · exact h4 x g
theorem KA.has : ∀ {kvs : List (L2.Key × V)} {tp : List (List Str)} {p : List Str}, (kvs.map fun kv => kV kv.1) = tp.map pV → (valV kvs (pkey p)).isSome = true → (∀ x ∈ tp, Nms x) → Nms p → p ∈ tp
  | [], _, _, _, h, _, _ => by cases h
  | kv :: r, [], _, e, _, _, _ => by cases e
  | kv :: r, x :: tp, p, e, h, n, hp => by
    simp only [List.map_cons, List.cons.injEq] at e
    by_cases q : kv.1 = pkey p
    · rw [q] at e
      have e1 : V.str (js p) = V.str (js x) := e.1
      rw [js_inj hp (n x List.mem_cons_self) (V.str.inj e1)]
      exact List.mem_cons_self
    · rw [valV_neg q] at h
      exact List.mem_cons_of_mem _ (KA.has e.2 h (fun y hy => n y (List.mem_cons_of_mem _ hy)) hp)
def MS (H H' : Hp) (d e : Addr) (T D : List Str → Prop) (n : Nat) : Prop := Same H H' ∧ ∃ (kvs : List (L2.Key × V)) (dp : List (List Str)), H' d = some (.dK kvs) ∧ KA kvs 40 T ∧ kvs.length ≤ n ∧ H' e = some (.lst (dp.map pV)) ∧ DA dp 40 D ∧ dp.length ≤ n
theorem MS.up {H H' H'' : Hp} {d e : Addr} {T D : List Str → Prop} {n : Nat} (h : MS H H' d e T D n) (s : Same H' H'') : MS H H'' d e T D n := by
  obtain ⟨s0, kvs, dp, h1, h2, h3, h4, h5, h6⟩ := h
  exact ⟨s0.trans s, kvs, dp, s _ _ h1, h2, h3, s _ _ h4, h5, h6⟩
def Sz (s : Lk × An) : Prop := (match s.1 with | .rd p => p.length ≤ 20 | .ls p => p.length ≤ 20 | _ => True) ∧ (match s.2 with | .es l => l.length ≤ 20 | _ => True)
section
variable {P : Program} {w : World} {K : PySem.W.Frag} {mg : Str → Option Value} {base : Heap}
end
end T5

set_option maxHeartbeats 3900000
namespace T5
open PySem PySem.Spec PyProof.Rows L2 TL
open C8 (pss_cut tCut pe_gc)
open CB
section
variable {P : Program} {w : World} {K : PySem.W.Frag} {mg : Str → Option Value} {base : Heap}
def lkey (k : Lk) : List L2.Key := (lkS k).map Sum.inr
theorem lkey_V (k : Lk) : (lkey k).map kV = lkV k := by
  rw [lkV_S]
  unfold lkey
  rw [List.map_map]
  rfl
theorem lkey_inj {k k' : Lk} (h : LkW k) (h' : LkW k') : lkey k = lkey k' ↔ k = k' := by
  refine ⟨fun e => lkS_inj h h' ?_, fun e => by rw [e]⟩
  unfold lkey at e
  have : ∀ {l m : List Str}, l.map (Sum.inr : Str → L2.Key) = m.map Sum.inr → l = m := by
    intro l
    induction l with
    | nil =>
      intro m h
      cases m with
      | nil => rfl
      | cons _ _ => cases h
    | cons x r ih =>
      intro m h
      cases m with
      | nil => cases h
      | cons y t =>
        simp only [List.map_cons, List.cons.injEq] at h
        rw [Sum.inr.inj h.1, ih h.2]
  exact this e
end
end T5

set_option maxHeartbeats 3900000
namespace T5
open PySem PySem.Spec PyProof.Rows L2 TL
open CB
theorem ben_len {p q : List Str} (h : ben p q = true) : q.length < p.length := by
  unfold ben at h
  rw [Bool.and_eq_true] at h
  exact of_decide_eq_true h.2
theorem ben_nil {p : List Str} : ben [] p = false := by
  cases e : ben [] p with
  | false => rfl
  | true => exact absurd (ben_len e) (by simp)
def Ds (s : Lk × An) (p : List Str) : Prop := (p = [] ∨ DirOf s p) ∨ (p ≠ [] ∧ ∃ r, (TxtOf s r ∨ (r = [] ∨ DirOf s r)) ∧ ben r p = true)
def fd (s : Lk × An) (p : List Str) : Bool := decide (s = (.ls p, .no)) || follL s (.ls p)
end T5

set_option maxHeartbeats 3900000
namespace T5
open PySem PySem.Spec PyProof.Rows L2 TL
open C8 (pss_cut tCut pe_gc)
open CB
inductive NoRow (H : Hp) : V → Prop
  | non : NoRow H .non
  | str (z : Str) : NoRow H (.str z)
  | int (i : Int) : NoRow H (.int i)
  | dct {a : Addr} {kvs : List (L2.Key × V)} (h : H a = some (.dK kvs)) : NoRow H (.ref a)
theorem NoRow.up {H H' : Hp} {x : V} (h : NoRow H x) (s : Same H H') : NoRow H' x := by
  cases h with
  | non => exact .non
  | str z => exact .str z
  | int i => exact .int i
  | dct h => exact .dct (s _ _ h)
def PathNo (z : Str) : Prop := ∃ ys, Txt.split z "/" = ys ∧ Sh z ∧ (∀ y ∈ ys, Sh y) ∧ ys.length < 1000000 ∧ (ys.all fun y => decide (IsNm y)) = false
inductive CanNot : Str → V → Prop
  | rd {z : Str} (h : PathNo z) : CanNot "read" (.str z)
  | ls0 : CanNot "list" .non
  | ls {z : Str} (h : PathNo z) (n : z ≠ "") : CanNot "list" (.str z)
  | se {z : Str} (h : ¬ IsNm z) (s : Sh z) : CanNot "setting" (.str z)
  | se5 (i : Int) : CanNot "setting" (.int i)
  | oth {a : Str} {b : V} (h1 : a ≠ "read") (h2 : a ≠ "list") (h3 : a ≠ "setting") : CanNot a b
inductive OddR : List V → Prop
  | zero : OddR []
  | one {z : Str} (h : z ≠ "tool") : OddR [.str z]
  | two {a : Str} {b : V} (h : CanNot a b) : OddR [.str a, b]
  | three (a b c : V) : OddR [a, b, c]
inductive OddL (H : Hp) : V → Prop
  | no {x : V} (h : NoRow H x) : OddL H x
  | row {x : V} {xs : List V} (h : RowAt H x xs) (o : OddR xs) : OddL H x
theorem OddL.up {H H' : Hp} {x : V} (h : OddL H x) (s : Same H H') : OddL H' x := by
  cases h with
  | no h => exact .no (h.up s)
  | row h o => exact .row (h.up s) o
section
variable {P : Program} {w : World} {K : PySem.W.Frag} {mg : Str → Option Value} {base : Heap}
end
end T5

set_option maxHeartbeats 3900000
namespace T5
open PySem PySem.Spec PyProof.Rows L2 TL
open C8 (pss_cut tCut pe_gc)
open CB XW
def EnB (x : V) (b : Bool) : Prop := (∃ z, x = .str z ∧ Sh z ∧ Sh (Txt.removesuffix z "/") ∧ b = decide (IsNm (Txt.removesuffix z "/"))) ∨ (b = false ∧ ∃ i, x = .int i)
inductive NoLs (H : Hp) (v : V) : Prop
  | row (h : NoRow H v)
  | bad {zs : List (V × Bool)} (h : RowAt H v (zs.map (·.1))) (e : ∀ z ∈ zs, EnB z.1 z.2) (a : zs.all (·.2) = false) (l : zs.length ≤ 1000)
  | two {a b : Str × Bool} (h : RowAt H v [entV a, entV b]) (ha : IsNm a.1) (hb : IsNm b.1) (n : ¬ a.1.cps.toList < b.1.cps.toList)
theorem NoLs.up {H H' : Hp} {v : V} (h : NoLs H v) (s : Same H H') : NoLs H' v := by
  cases h with
  | row h => exact .row (h.up s)
  | bad h e a l => exact .bad (h.up s) e a l
  | two h ha hb n => exact .two (h.up s) ha hb n
inductive AnNo (H : Hp) (v : V) : Lk → Prop
  | tlN (e : v = .non) : AnNo H v .tl
  | lsN (e : v = .non) : AnNo H v (.ls [])
  | lsB {p : List Str} (h : NoLs H v) (n : v ≠ .non) : AnNo H v (.ls p)
  | lsE {p : List Str} (h : RowAt H v []) (n : p ≠ []) : AnNo H v (.ls p)
  | rd {p : List Str} (h : NoText H v) (n : v ≠ .non) : AnNo H v (.rd p)
  | se {z : Str} (h : NoText H v) (n : v ≠ .non) : AnNo H v (.se z)
  | tl (h : NoText H v) (n : v ≠ .non) : AnNo H v .tl
theorem AnNo.up {H H' : Hp} {k : Lk} {v : V} (h : AnNo H v k) (s : Same H H') : AnNo H' v k := by
  cases h with
  | tlN e => exact .tlN e
  | lsN e => exact .lsN e
  | lsB h n => exact .lsB (h.up s) n
  | lsE h n => exact .lsE (h.up s) n
  | rd h n => exact .rd (h.up s) n
  | se h n => exact .se (h.up s) n
  | tl h n => exact .tl (h.up s) n
inductive SgNo (H : Hp) (v : V) : Prop
  | no (h : NoRow H v)
  | len {xs : List V} (h : RowAt H v xs) (n : xs.length ≠ 2)
  | look {x y : V} (h : RowAt H v [x, y]) (o : OddL H x)
  | ans {x y : V} {k : Lk} (h : RowAt H v [x, y]) (hx : RowAt H x (lkV k)) (ok : LkOk k) (n : AnNo H y k)
theorem SgNo.up {H H' : Hp} {v : V} (h : SgNo H v) (s : Same H H') : SgNo H' v := by
  cases h with
  | no h => exact .no (h.up s)
  | len h n => exact .len (h.up s) n
  | look h o => exact .look (h.up s) (o.up s)
  | ans h hx ok n => exact .ans (h.up s) (hx.up s) ok (n.up s)
section
variable {P : Program} {w : World} {K : PySem.W.Frag} {mg : Str → Option Value} {base : Heap}
end
end T5

set_option maxHeartbeats 3900000
namespace ET
open PySem PySem.Spec PyProof.Rows L2
abbrev itObj (l : Addr) : Obj := { cls := .type "tuple_iterator", data := .fields #[.ref l, .int 0 0] }
abbrev enObj (it : Addr) : Obj := { cls := .type "enumerate", data := .fields #[.none, .bool false, .ref it, rawInt 0, .none, .none] }
theorem meets_enumT (l : Addr) (its : Array Value) (n : Nat) (dct : Option Addr) (sl : Array (Option Value)) :
    Meets (Builtin.«enumerate.__new__» ⟨[.type "enumerate", .ref l], []⟩) (fun _ R s => s.heap.get? l = some { cls := .type "tuple", dict := dct, data := .seq its n, slots := sl } ∧
      R (.ok (.ret (.ref (s.heap.push (itObj l)).objs.size))) { s with heap := (s.heap.push (itObj l)).push (enObj s.heap.objs.size) }) :=
  .of_wp fun prog w A R s ha => by
    obtain ⟨hp, gg, dd, tk, os⟩ := s
    obtain ⟨hl, ha⟩ := ha
    have isub := sub_enumerate
    have hT : Heap.IsTuple (Shared.heap ⟨hp, gg, dd, tk, os⟩) l its := ⟨_, hl, rfl, n, rfl⟩
    wp_walk using AutoSeq1.wpAny_loadPart' hl
    refine wpAny_stack_any fun stk => wpAny_pure ?_
    split
    · rename_i c _ _ _ _ _
      cases (c == Value.type "enumerate") <;> (wp_walk using AutoSeq1.wpAny_loadPart' hl, wpAny_pyIter_tuple hT; exact ⟨_, rfl, ha⟩)
    · wp_walk using AutoSeq1.wpAny_loadPart' hl, wpAny_pyIter_tuple hT
      exact ⟨_, rfl, ha⟩
theorem call_enumT {prog : Program} {w : World} {A : Around} {E : Value → Shared → Prop} {s : Shared} {l : Addr} {its : Array Value} {Q : Value → Shared → Prop} (hL : s.heap.IsTuple l its)
    (h : ∀ h', IsEnum h' (s.heap.objs.size + 1) s.heap.objs.size 0 .none → h'.IsTupleIter s.heap.objs.size l 0 → (∀ b o, s.heap.get? b = some o → h'.get? b = some o) → Q (.ref (s.heap.objs.size + 1)) { s with heap := h' }) :
    wpAny (model prog w) A (call (.type "enumerate") [.ref l]) Q E s := by
  obtain ⟨⟨c, dct, dt, sl⟩, hl, hc, n, hd⟩ := hL
  obtain rfl : c = .type "tuple" := hc
  obtain rfl : dt = .seq its n := hd
  refine callType_new F.called_enumerate (by decide) (F.typeCall_enumerate_1 _) (F.newCall_enumerate_1 _) (fun obj => F.args_object_init_2 obj _) F.entry_enumerate_new (meets_enumT l its n dct sl) ⟨hl, ?_⟩
  have ez : (s.heap.push (itObj l)).objs.size = s.heap.objs.size + 1 := Heap.size_push ..
  show _ ∧ _
  rw [ez]
  have en : IsEnum ((s.heap.push (itObj l)).push (enObj s.heap.objs.size)) (s.heap.objs.size + 1) s.heap.objs.size 0 .none := by
    have q := Heap.get?_push_size (s.heap.push (itObj l)) (o := enObj s.heap.objs.size) rfl
    rw [ez] at q
    exact q
  exact ⟨⟨_, en, rfl⟩, h _ en ⟨_, Heap.get?_push_of_some _ (Heap.get?_push_size _ rfl), rfl, rfl⟩ fun b o x => Heap.get?_push_of_some _ (Heap.get?_push_of_some _ x)⟩
def Itu (K : PySem.W.Frag) (a : Addr) (xs : List V) : It :=
  ⟨fun i H => SqT K H a xs ∧ i < xs.length, fun i H v H' => ∃ T x, v = .ref T ∧ H T = none ∧ H' = upd H T (.tup [.int (i : Nat), x]) ∧ xs[i]? = some x, fun i H => SqT K H a xs ∧ xs.length ≤ i⟩
theorem turn_enumT {P : Program} {w : World} {K : PySem.W.Frag} {elts : List Expr} {kk : Nat} {tpos : Pos} (a e it : Addr) (xs : List V) :
    Turn P w K (.Tuple elts kk tpos) (Itu K a xs) [e, it] e (fun i h => (∃ old, IsEnum h e it ((i : Nat) : Int) old) ∧ h.IsTupleIter it a i ∧ e ≠ it ∧ a ≠ it ∧ a ≠ e ∧ i ≤ xs.length) where
  mem := by simp
  obj := fun i h st b hb => by
    obtain ⟨⟨old, he⟩, ⟨o, ho, hc, hd⟩, _⟩ := st
    rcases (show b = e ∨ b = it by simpa using hb) with rfl | rfl
    · exact ⟨_, he, fun v q => nomatch q⟩
    · exact ⟨o, ho, fun v q => by rw [hd] at q; cases q⟩
  keep := fun i h h' st k => by
    obtain ⟨⟨old, he⟩, ⟨o, ho, r⟩, hne⟩ := st
    exact ⟨⟨old, k e (by simp) _ he⟩, ⟨o, k it (by simp) _ ho, r⟩, hne⟩
  item := by
    intro X hP hw hK hc i pins s σ H E I hf st hg
    subst hP hw hK
    obtain ⟨⟨old, he⟩, hit, hne, na, nb, nle⟩ := st
    obtain ⟨hq, ilt⟩ := hg
    have hx : xs[i]? = some xs[i] := List.getElem?_eq_getElem ilt
    generalize xs[i] = x at hx
    obtain ⟨its, rv, p, hz⟩ := I.tuple hq
    obtain ⟨u, hu, ru⟩ := rv.get hx
    have hel : e < s.heap.objs.size := Heap.lt_size he
    have hil : it < s.heap.objs.size := by obtain ⟨_, q, _⟩ := hit; exact Heap.lt_size q
    have pt : s.heap.IsTuple a its.toArray := p
    have D := Draws.tuple (prog := X.prog) (w := X.w) (A := X.A.in1) (I.ok.hd hc) it a na its.toArray
    have hlt : i < its.toArray.size := by
      have := (List.getElem?_eq_some_iff.mp hu).1
      simpa using this
    have nef : e ∉ [it, a] := by
      simp only [List.mem_cons, List.not_mem_nil, or_false, not_or]
      exact ⟨hne, fun z => nb z.symm⟩
    refine wpAny_pyNext_enum_itemD D he ⟨hit, pt⟩ hlt hne nef fun v h' tk hv ho hit' hT hsz hk => ?_
    have ev : v = u := by
      have hv2 : its[i]? = some v := by simpa using hv
      rw [hu] at hv2
      exact (Option.some.inj hv2).symm
    subst ev
    refine ⟨_, rfl, wpAny_letOwnedTupleGo_enum (s := { s with heap := h', toks := tk + 1 }) ho fun h'' he' sb => ?_⟩
    have away : ∀ b, b ∉ [e, it] → b ≠ e ∧ b ≠ it := fun b hb => ⟨fun z => hb (by simp [z]), fun z => hb (by simp [z])⟩
    have hT2 : h''.get? s.heap.objs.size = some { cls := .type "tuple", data := .seq #[.int i tk, v] } := (sb.2 _ (Nat.ne_of_gt hel)).trans hT
    have I1 : Inv X pins σ (upd H s.heap.objs.size (.tup [.int (i : Nat), x])) { s with heap := h'', toks := tk + 1 } := by
      refine I.turnedNew (ch := [e, it]) (fun b ob hb q => ?_) hf (Nat.le_refl _) ?_
      · exact (sb.2 b (away b hb).1).trans (hk b ob (away b hb).1 (away b hb).2 q)
      · exact ⟨by show 2 ≤ sizeLine; decide, [.int i tk, v], .cons ⟨_, rfl⟩ (.cons ru .nil), ⟨_, hT2, rfl, _, rfl⟩⟩
    refine ⟨.ref s.heap.objs.size, _, I1, rfl, ⟨s.heap.objs.size, x, rfl, I.hok.fresh (Nat.le_refl _), rfl, hx⟩, ⟨⟨v, ?_⟩, ?_, hne, na, nb, ilt⟩, fun b hb => ?_⟩
    · rw [show ((i + 1 : Nat) : Int) = (i : Int) + 1 by omega]
      exact he'
    · obtain ⟨⟨o, h1, h2⟩, _⟩ := hit'
      exact ⟨o, (sb.2 it (Ne.symm hne)).trans h1, h2⟩
    · have lt : b < s.heap.objs.size := by
        rcases (show b = e ∨ b = it by simpa using hb) with z | z
        · rw [z]; exact hel
        · rw [z]; exact hil
      rw [upd_ne (Nat.ne_of_lt lt)]
      exact (hf b hb).1
  done := by
    intro X hP hw hK hc i pins s σ H E I hf st hg
    subst hP hw hK
    obtain ⟨⟨old, he⟩, hit, hne, na, nb, nle⟩ := st
    obtain ⟨hq, hx⟩ := hg
    obtain ⟨its, rv, p, hz⟩ := I.tuple hq
    obtain ⟨f0, f1, f2, f3, f4, f5⟩ := hf it (by simp)
    have D := Draws.tuple (prog := X.prog) (w := X.w) (A := X.A.in1) (I.ok.hd hc) it a na its.toArray
    have hl := rv.length
    have ei : i = its.toArray.size := by
      have e1 : its.toArray.size = its.length := by simp
      rw [e1, ← hl]
      exact Nat.le_antisymm nle hx
    have pt : s.heap.IsTuple a its.toArray := p
    rw [ei] at hit
    exact wpAny_pyNext_enum_endD D he ⟨hit, pt⟩ fun h' eb => ⟨rfl, I.turned (t' := s.toks) (fun b o hb q => eb b o hb q) f0 f1 f3 f4 f5⟩
  self := fun A i s Q E st h => let ⟨⟨_, he⟩, _⟩ := st; wpAny_pyIter_enum he h
theorem walk_enumT {K : PySem.W.Frag} {a : Addr} {xs : List V} : Walk (Itu K a xs) xs.length (fun H => SqT K H a xs) (YPair (fun i => some (.int (i : Nat))) (fun i => xs[i]?)) := by
  refine ⟨fun i _ hi q => ⟨q, hi⟩, fun _ q => ⟨q, Nat.le_refl _⟩, fun i H v H' _ q y => ?_⟩
  obtain ⟨T, x, h1, h2, h3, h4⟩ := y
  exact ⟨T, .int (i : Nat), x, h1, h2, h3, rfl, h4⟩
end ET

set_option maxHeartbeats 3900000
namespace ZL
open PySem PySem.Spec PyProof.Rows L2
theorem nd {x y : Nat} (h : x < y ∨ y < x) : x ≠ y := by omega
end ZL

set_option maxHeartbeats 3900000
namespace LR
open PySem PySem.Spec PyProof.Rows L2
open CB ZL
section
variable {J : It} {n : Nat} {G : Hp → Prop} {K : PySem.W.Frag} {fx fy : Nat → Option V} {i j : Nat} {te : TE} {σ : L2.St} {H1 : Hp} {D : Addr} {Qd : Hp → Prop}
theorem lcR2 (w : Walk J n G (YPair fx fy)) (hij : i ≠ j) (R : Nat → V → Hp → Prop) (mono : ∀ i y H H', TupS H H' → R i y H → R i y H') (hs : n < 1000000) (hD : H1 D = none) (hG : ∀ H', Same H1 H' → G H')
    (turn : ∀ (m : Nat) (x x' : V) (H2 : Hp), m < n → fx m = some x → fy m = some x' → Same H1 H2 → ∀ Q1 : VK, (∀ y H4, Same H2 H4 → R m y H4 → Q1 y H4) → te (((wipe σ [i, j]).set i (some x)).set j (some x')) H2 Q1)
    (hd : ∀ ys H', ys.length = n → Same H1 H' → H' D = some (.lst ys) → (∀ i y, ys[i]? = some y → R i y H') → Qd H') :
    ∃ W : Nat → Nat → Hp → Prop, (∃ m, W 0 m (upd H1 D (.lst []))) ∧ ∀ k m H, W k m H →
      (J.stop k H ∧ Qd H) ∨ (J.go k H ∧ ∃ Nx : Hp → Prop, (∀ H', Nx H' → ∃ m', m' < m ∧ W (k + 1) m' H') ∧ ∀ x H', J.yld k H x H' → gTup K 2 (gCons (gName i) (gCons (gName j) gNil)) x (wipe σ [i, j]) H' fun σ2 H2 => wipe σ2 [i, j] = wipe σ [i, j] ∧ tYes σ2 H2 fun b H3 =>
        if b = true then te σ2 H3 fun y H4 => ∃ acc, H4 D = some (.lst acc) ∧ acc.length < sizeLine ∧ Nx (upd H4 D (.lst (acc ++ [y]))) else Nx H3) := by
  refine lc_it w (fun k H' => Same H1 H' ∧ ∃ ys, ys.length = k ∧ H' D = some (.lst ys) ∧ ∀ m y, ys[m]? = some y → R m y H') ⟨same_mk hD, [], rfl, upd_same, fun m y h => by cases h⟩ (fun k H' _ q => hG H' q.1) ?_ ?_
  · rintro m x H2 H3 hm ⟨s2, ys, hl, hd2, hr⟩ ⟨T, x1, x2, rfl, hT, rfl, e1, e2⟩
    refine ⟨T, _, rfl, SqT.of upd_same, rfl, x1, _, rfl, x2, _, rfl, rfl, wipe2 hij x1 x2, ?_⟩
    have s3 : Same H2 (upd H2 T (.tup [x1, x2])) := same_mk hT
    refine turn m x1 x2 _ hm e1 e2 (s2.trans s3) _ fun v H4 s4 r => ?_
    have hd4 := s4 _ _ (s3 _ _ hd2)
    have up : TupS H4 (upd H4 D (.lst (ys ++ [v]))) := fun b xs h => by
      rw [upd_ne (ne_of h hd4 (by intro z; cases z))]
      exact h
    refine ⟨_, hd4, Nat.lt_of_lt_of_le (show ys.length < 1000000 by omega) (by decide), same_ch ((s2.trans s3).trans s4) hD, ys ++ [v], by rw [List.length_append, hl]; rfl, upd_same, fun q z hq => ?_⟩
    by_cases e : q < ys.length
    · rw [List.getElem?_append_left e] at hq
      exact mono _ _ _ _ up (mono _ _ _ _ (TupS.of (s3.trans s4)) (hr q z hq))
    · rw [List.getElem?_append_right (by omega)] at hq
      have lt := (List.getElem?_eq_some_iff.mp hq).1
      rw [List.length_singleton] at lt
      have eq : q = ys.length := by omega
      subst eq
      rw [Nat.sub_self] at hq
      cases hq
      rw [hl]
      exact mono _ _ _ _ up r
  · rintro H' ⟨s, ys, hl, h, hr⟩
    exact hd ys H' hl s h hr
end
section
variable {K : PySem.W.Frag} {i j ia ib : Nat} {te : TE} {σ : L2.St} {H : Hp} {Q : VK} {a b : Addr}
end
def ButD (D : Addr) (H H' : Hp) : Prop := ∀ b o, H b = some o → b ≠ D → H' b = some o
theorem ButD.of {D : Addr} {H H' : Hp} (s : Same H H') : ButD D H H' := fun b o h _ => s b o h
section
variable {J : It} {n : Nat} {G : Hp → Prop} {Y : Nat → Hp → V → Hp → Prop} {j : Nat} {te : TE} {σ : L2.St} {H1 : Hp} {D : Addr} {Qd : Hp → Prop}
theorem lcRD (w : Walk J n G Y) (R : Nat → V → Hp → Prop) (mono : ∀ i y H H', ButD D H H' → R i y H → R i y H') (hs : n < 1000000) (hD : H1 D = none) (hG : ∀ H', Same H1 H' → G H')
    (turn : ∀ (i : Nat) (x : V) (H2 H3 : Hp), i < n → Same H1 H2 → (∃ acc, H2 D = some (.lst acc)) → Y i H2 x H3 → ∀ Q1 : VK, (∀ y H4, Same H2 H4 → R i y H4 → Q1 y H4) → te ((wipe σ [j]).set j (some x)) H3 Q1)
    (hd : ∀ ys H', ys.length = n → Same H1 H' → H' D = some (.lst ys) → (∀ i y, ys[i]? = some y → R i y H') → Qd H') :
    ∃ W : Nat → Nat → Hp → Prop, (∃ m, W 0 m (upd H1 D (.lst []))) ∧ ∀ i m H, W i m H →
      (J.stop i H ∧ Qd H) ∨ (J.go i H ∧ ∃ Nx : Hp → Prop, (∀ H', Nx H' → ∃ m', m' < m ∧ W (i + 1) m' H') ∧ ∀ x H', J.yld i H x H' → gName j x (wipe σ [j]) H' fun σ2 H2 => wipe σ2 [j] = wipe σ [j] ∧ tYes σ2 H2 fun b H3 =>
        if b = true then te σ2 H3 fun y H4 => ∃ acc, H4 D = some (.lst acc) ∧ acc.length < sizeLine ∧ Nx (upd H4 D (.lst (acc ++ [y]))) else Nx H3) := by
  refine lc_it w (fun i H' => Same H1 H' ∧ ∃ ys, ys.length = i ∧ H' D = some (.lst ys) ∧ ∀ m y, ys[m]? = some y → R m y H') ⟨same_mk hD, [], rfl, upd_same, fun m y h => by cases h⟩ (fun i H' _ q => hG H' q.1) ?_ ?_
  · rintro i x H2 H3 hi ⟨s2, ys, hl, hd2, hr⟩ y
    refine ⟨wipe1 x, turn i x H2 H3 hi s2 ⟨_, hd2⟩ y _ fun v H4 s4 r => ?_⟩
    have hd4 := s4 _ _ hd2
    have up : ButD D H4 (upd H4 D (.lst (ys ++ [v]))) := fun b o h nb => (upd_ne nb).trans h
    refine ⟨_, hd4, Nat.lt_of_lt_of_le (show ys.length < 1000000 by omega) (by decide), same_ch (s2.trans s4) hD, ys ++ [v], by rw [List.length_append, hl]; rfl, upd_same, fun m z hm => ?_⟩
    by_cases e : m < ys.length
    · rw [List.getElem?_append_left e] at hm
      exact mono _ _ _ _ up (mono _ _ _ _ (ButD.of s4) (hr m z hm))
    · rw [List.getElem?_append_right (by omega)] at hm
      have lt := (List.getElem?_eq_some_iff.mp hm).1
      rw [List.length_singleton] at lt
      have eq : m = ys.length := by omega
      subst eq
      rw [Nat.sub_self] at hm
      cases hm
      rw [hl]
      exact mono _ _ _ _ up r
  · rintro H' ⟨s, ys, hl, h, hr⟩
    exact hd ys H' hl s h hr
end
section
variable {α : Type} {J : It} {n : Nat} {G : Hp → Prop} {Y : Nat → Hp → V → Hp → Prop} {tt : TT} {te : TE} {σ : L2.St} {H1 : Hp} {D : Addr} {Qd : Hp → Prop} {j : Nat}
theorem lcFM (w : Walk J n G Y) (zs : List α) (u g : α → V) (f : α → Bool) (hn : zs.length = n) (hs : n < 1000000) (hY : ∀ i H x H', Y i H x H' → H' = H ∧ (zs.map u)[i]? = some x) (hD : H1 D = none) (hG : ∀ H', Same H1 H' → G H')
    (test : ∀ z ∈ zs, ∀ (H2 : Hp), Same H1 H2 → ∀ Q1 : Bool → Hp → Prop, (∀ H3, Same H2 H3 → Q1 (f z) H3) → tt ((wipe σ [j]).set j (some (u z))) H2 Q1)
    (elt : ∀ z ∈ zs, f z = true → ∀ (H2 : Hp), Same H1 H2 → ∀ Q1 : VK, (∀ H3, Same H2 H3 → Q1 (g z) H3) → te ((wipe σ [j]).set j (some (u z))) H2 Q1)
    (hd : ∀ H', Same H1 H' → H' D = some (.lst ((zs.filter f).map g)) → Qd H') :
    ∃ W : Nat → Nat → Hp → Prop, (∃ m, W 0 m (upd H1 D (.lst []))) ∧ ∀ i m H, W i m H →
      (J.stop i H ∧ Qd H) ∨ (J.go i H ∧ ∃ Nx : Hp → Prop, (∀ H', Nx H' → ∃ m', m' < m ∧ W (i + 1) m' H') ∧ ∀ x H', J.yld i H x H' → gName j x (wipe σ [j]) H' fun σ2 H2 => wipe σ2 [j] = wipe σ [j] ∧ tt σ2 H2 fun b H3 =>
        if b = true then te σ2 H3 fun y H4 => ∃ acc, H4 D = some (.lst acc) ∧ acc.length < sizeLine ∧ Nx (upd H4 D (.lst (acc ++ [y]))) else Nx H3) := by
  subst hn
  refine lc_it w (fun i H' => Same H1 H' ∧ H' D = some (.lst (((zs.take i).filter f).map g))) ⟨same_mk hD, upd_same⟩ (fun i H' _ q => hG H' q.1) ?_ ?_
  · rintro i x H2 H3 hi ⟨s2, hd2⟩ y
    obtain ⟨rfl, hx⟩ := hY i H2 x H3 y
    rw [List.getElem?_map, List.getElem?_eq_getElem hi] at hx
    cases hx
    have hm : zs[i] ∈ zs := List.getElem_mem hi
    have tk : zs.take (i + 1) = zs.take i ++ [zs[i]] := by
      rw [List.take_succ, List.getElem?_eq_getElem hi]
      rfl
    refine ⟨wipe1 _, test zs[i] hm _ s2 _ fun H4 s4 => ?_⟩
    cases hf : f zs[i] with
    | true =>
      refine iteT (elt _ hm hf _ (s2.trans s4) _ fun H5 s5 => ⟨_, s5 _ _ (s4 _ _ hd2), ?_, same_ch ((s2.trans s4).trans s5) hD, ?_⟩)
      · rw [List.length_map]
        have h1 := List.length_filter_le f (zs.take i)
        rw [List.length_take] at h1
        exact Nat.lt_of_lt_of_le (show _ < 1000000 by omega) (by decide)
      · rw [upd_same, tk, List.filter_append, List.filter_cons_of_pos hf, List.filter_nil, List.map_append]
        rfl
    | false =>
      refine iteF ⟨s2.trans s4, ?_⟩
      rw [tk, List.filter_append, List.filter_cons_of_neg (by rw [hf]; decide), List.filter_nil, List.append_nil]
      exact s4 _ _ hd2
  · rintro H' ⟨s, h⟩
    rw [List.take_length] at h
    exact hd H' s h
end
end LR

set_option maxHeartbeats 3900000
namespace ER
open PySem PySem.Spec PyProof.Rows L2 TL
open CB
end ER

set_option maxHeartbeats 3900000
namespace T5
open PySem PySem.Spec PyProof.Rows L2 TL
open C8 (pss_cut tCut pe_gc)
open CB XW
theorem SiAt.tup {H H' : Hp} {v : V} {s : Lk × An} (h : SiAt H v s) (e : TupS H H') : SiAt H' v s := by
  obtain ⟨t, u, va, rfl, h1, h2, h3⟩ := h
  refine ⟨t, u, va, rfl, e _ _ h1, e _ _ h2, ?_⟩
  obtain ⟨k, a⟩ := s
  cases a with
  | no => exact h3
  | tx z => exact h3
  | es l =>
    obtain ⟨b, e1, e2⟩ := h3
    exact ⟨b, e1, e _ _ e2⟩
theorem tupS_put {H : Hp} {p : Addr} {u w : HO} (h : H p = some u) (n : ∀ xs, u ≠ .tup xs) : TupS H (upd H p w) := fun b xs e => by
  rw [upd_ne fun z => by rw [z, h] at e; exact n xs (Option.some.inj e)]
  exact e
theorem TupS.trans {H H1 H2 : Hp} (a : TupS H H1) (b : TupS H1 H2) : TupS H H2 := fun c xs e => b c xs (a c xs e)
def SgO (H : Hp) (v : V) : Option (Lk × An) → Prop
  | none => SgNo H v
  | some s => SiIn H v s ∧ SiOk' s
theorem SgO.up {H H' : Hp} {v : V} {o : Option (Lk × An)} (h : SgO H v o) (s : Same H H') : SgO H' v o := by
  cases o with
  | none => exact SgNo.up h s
  | some x => exact ⟨SiIn.up h.1 s, h.2⟩
section
variable {P : Program} {w : World} {K : PySem.W.Frag} {mg : Str → Option Value} {base : Heap} {CS CA fS fA : Addr} {fdS fdA : FuncData}
end
end T5

set_option maxHeartbeats 3900000
namespace FI
open PySem PySem.Spec PyProof.Rows L2 TL RP
open C8 (pss_cut tCut pe_gc)
open CB
structure Fine (d : PyData) (dep n : Nat) : Prop where
  sh : d.showable = true
  dp : d.depth ≤ dep
  sz : d.shown.length ≤ n
theorem piled_le : ∀ (ts : List Str) (n : Nat), (∀ t ∈ ts, t.length ≤ n) → piled ts ≤ ts.length * (n + 2)
  | [], n, _ => by
    rw [piled_nil]
    omega
  | t :: r, n, h => by
    have ih := piled_le r n fun u hu => h u (List.mem_cons_of_mem _ hu)
    have h1 := h t List.mem_cons_self
    rw [piled_cons, List.length_cons, Nat.succ_mul]
    omega
theorem listText_le (ts : List Str) (n : Nat) (h : ∀ t ∈ ts, t.length ≤ n) : (listText ts).length ≤ 2 + ts.length * (n + 2) := by
  have pl := piled_le ts n h
  cases ts with
  | nil =>
    show 2 ≤ 2 + 0 * (n + 2)
    omega
  | cons t r =>
    have e : (listText (t :: r)).length = (textFrom 1 (("[" : Str) ++ (if 0 > 0 then ", " else "" : String) ++ t) r).length + 1 := by
      show ((textFrom 0 "[" (t :: r)) ++ ("]" : String)).length = _
      rw [strLen_append]
      rfl
    rw [e, textFrom_length_pos r 1 _ (by decide), strLen_append, strLen_append]
    rw [piled_cons] at pl
    have e1 : (("[" : String) : Str).length = 1 := rfl
    have e2 : (((if 0 > 0 then ", " else "" : String)) : Str).length = 0 := rfl
    rw [e1, e2]
    omega
theorem shown_mem : ∀ {ds : List PyData} {t : Str}, t ∈ PyData.shownAll ds → ∃ d ∈ ds, t = d.shown
  | [], t, h => by simp [PyData.shownAll] at h
  | d :: r, t, h => by
    simp only [PyData.shownAll] at h
    rcases List.mem_cons.mp h with rfl | h
    · exact ⟨d, List.mem_cons_self, rfl⟩
    · obtain ⟨e, he, q⟩ := shown_mem h
      exact ⟨e, List.mem_cons_of_mem _ he, q⟩
theorem shownAll_len : ∀ ds : List PyData, (PyData.shownAll ds).length = ds.length
  | [] => by simp [PyData.shownAll]
  | d :: r => by simp [PyData.shownAll, shownAll_len r]
theorem showAll : ∀ ds : List PyData, (∀ d ∈ ds, d.showable = true) → PyData.showableAll ds = true
  | [], _ => by simp [PyData.showableAll]
  | d :: r, h => by simp [PyData.showableAll, h d List.mem_cons_self, showAll r fun u hu => h u (List.mem_cons_of_mem _ hu)]
theorem depAll (n : Nat) : ∀ ds : List PyData, (∀ d ∈ ds, d.depth ≤ n) → PyData.depthAll ds ≤ n
  | [], _ => by simp [PyData.depthAll]
  | d :: r, h => by
    have h1 := h d List.mem_cons_self
    have h2 := depAll n r fun u hu => h u (List.mem_cons_of_mem _ hu)
    simp only [PyData.depthAll]
    omega
theorem Fine.lst {ds : List PyData} {dep n m : Nat} (h : ∀ d ∈ ds, Fine d dep n) (hm : 2 + ds.length * (n + 2) ≤ m) : Fine (.list ds) (dep + 1) m := by
  refine ⟨?_, ?_, ?_⟩
  · simp only [PyData.showable]
    exact showAll ds fun d hd => (h d hd).sh
  · simp only [PyData.depth]
    exact Nat.succ_le_succ (depAll dep ds fun d hd => (h d hd).dp)
  · simp only [PyData.shown]
    have q := listText_le (PyData.shownAll ds) n fun t ht => by
      obtain ⟨d, hd, rfl⟩ := shown_mem ht
      exact (h d hd).sz
    rw [shownAll_len] at q
    exact Nat.le_trans q hm
theorem dq_strs {K : PySem.W.Frag} {H : Hp} : ∀ l : List Str, DqAll K H (l.map V.str) (l.map PyData.str)
  | [] => .nil
  | z :: r => .cons (.str z) (dq_strs r)
theorem Fine.up {d : PyData} {a n b m : Nat} (h : Fine d a n) (h1 : a ≤ b) (h2 : n ≤ m) : Fine d b m := ⟨h.sh, Nat.le_trans h.dp h1, Nat.le_trans h.sz h2⟩
theorem tupTextN_le (ts : List Str) (n : Nat) (h : ∀ t ∈ ts, t.length ≤ n) : (tupleText ts).length ≤ 3 + ts.length * (n + 2) := by
  have pl := piled_le ts n h
  unfold tupleText
  rw [strLen_append, strLen_append]
  have e1 : ((("(" : String) : Str)).length = 1 := rfl
  have e3 : (((if ts.length == 1 then ",)" else ")" : String) : Str)).length ≤ 2 := by
    by_cases q : (ts.length == 1) = true
    · rw [if_pos q]
      exact Nat.le_refl _
    · rw [if_neg q]
      exact Nat.le_succ _
  by_cases e : ts = []
  · subst e
    have e4 : ((Str.ofString ", ").join ([] : List Str)).length = 0 := by decide +kernel
    rw [e1, e4]
    omega
  · have j := join_length_add ts e
    rw [e1]
    omega
theorem Fine.tup {ds : List PyData} {dep n m : Nat} (h : ∀ d ∈ ds, Fine d dep n) (hm : 3 + ds.length * (n + 2) ≤ m) : Fine (.tuple ds) (dep + 1) m := by
  refine ⟨?_, ?_, ?_⟩
  · simp only [PyData.showable]
    exact showAll ds fun d hd => (h d hd).sh
  · simp only [PyData.depth]
    exact Nat.succ_le_succ (depAll dep ds fun d hd => (h d hd).dp)
  · simp only [PyData.shown]
    have q := tupTextN_le (PyData.shownAll ds) n fun t ht => by
      obtain ⟨d, hd, rfl⟩ := shown_mem ht
      exact (h d hd).sz
    rw [shownAll_len] at q
    exact Nat.le_trans q hm
theorem fine_str {z : Str} {n : Nat} (hc : ∀ c ∈ tl z, c < 16 ^ 8) (hn : z.length ≤ n) : Fine (.str z) 0 (10 * n + 2) := by
  refine ⟨by simp [PyData.showable], by simp [PyData.depth], ?_⟩
  have q := PySem.StrLaws.reprText_len z hc
  simp only [PyData.shown]
  omega
theorem fine_non : Fine .none 0 10 := ⟨by simp [PyData.showable], by simp [PyData.depth], by simp only [PyData.shown]; decide⟩
end FI

set_option maxHeartbeats 3900000
namespace DV
open PySem PySem.Spec PyProof.Rows L2 TL RP
open CB
inductive Dv
  | non
  | int (i : Int)
  | bl (b : Bool)
  | str (z : Str)
  | tup (l : List Dv)
  | lst (l : List Dv)
  | dct
mutual
/-- v is so made, of things that H0 does not hold -/
inductive Dat (H0 H : Hp) : V → Dv → Prop
  | non : Dat H0 H .non .non
  | int (i : Int) : Dat H0 H (.int i) (.int i)
  | bl (b : Bool) : Dat H0 H (.bl b) (.bl b)
  | str (z : Str) : Dat H0 H (.str z) (.str z)
  | tup {a : Addr} {xs : List V} {ds : List Dv} (n : H0 a = none) (h : H a = some (.tup xs)) (k : DatAll H0 H xs ds) : Dat H0 H (.ref a) (.tup ds)
  | lst {a : Addr} {xs : List V} {ds : List Dv} (n : H0 a = none) (h : H a = some (.lst xs)) (k : DatAll H0 H xs ds) : Dat H0 H (.ref a) (.lst ds)
  | dct {a : Addr} (n : H0 a = none) (h : H a = some (.dK [])) : Dat H0 H (.ref a) .dct
inductive DatAll (H0 H : Hp) : List V → List Dv → Prop
  | nil : DatAll H0 H [] []
  | cons {v : V} {vs : List V} {d : Dv} {ds : List Dv} (h : Dat H0 H v d) (k : DatAll H0 H vs ds) : DatAll H0 H (v :: vs) (d :: ds)
end
mutual
theorem Dat.up {H0 H H' : Hp} (e : ∀ a o, H0 a = none → H a = some o → (∀ ps, o ≠ .tbl ps) → H' a = some o) : ∀ {v : V} {d : Dv}, Dat H0 H v d → Dat H0 H' v d
  | _, _, .non => .non
  | _, _, .int i => .int i
  | _, _, .bl b => .bl b
  | _, _, .str z => .str z
  | _, _, .tup n h k => .tup n (e _ _ n h fun _ z => by cases z) (DatAll.up e k)
  | _, _, .lst n h k => .lst n (e _ _ n h fun _ z => by cases z) (DatAll.up e k)
  | _, _, .dct n h => .dct n (e _ _ n h fun _ z => by cases z)
theorem DatAll.up {H0 H H' : Hp} (e : ∀ a o, H0 a = none → H a = some o → (∀ ps, o ≠ .tbl ps) → H' a = some o) : ∀ {vs : List V} {ds : List Dv}, DatAll H0 H vs ds → DatAll H0 H' vs ds
  | _, _, .nil => .nil
  | _, _, .cons h k => .cons (Dat.up e h) (DatAll.up e k)
end
mutual
theorem Dat.base {H0 H1 H : Hp} (e : ∀ a, H0 a = none → H1 a = none) : ∀ {v : V} {d : Dv}, Dat H0 H v d → Dat H1 H v d
  | _, _, .non => .non
  | _, _, .int i => .int i
  | _, _, .bl b => .bl b
  | _, _, .str z => .str z
  | _, _, .tup n h k => .tup (e _ n) h (DatAll.base e k)
  | _, _, .lst n h k => .lst (e _ n) h (DatAll.base e k)
  | _, _, .dct n h => .dct (e _ n) h
theorem DatAll.base {H0 H1 H : Hp} (e : ∀ a, H0 a = none → H1 a = none) : ∀ {vs : List V} {ds : List Dv}, DatAll H0 H vs ds → DatAll H1 H vs ds
  | _, _, .nil => .nil
  | _, _, .cons h k => .cons (Dat.base e h) (DatAll.base e k)
end
theorem Dat.same {H0 H H' : Hp} {v : V} {d : Dv} (h : Dat H0 H v d) (s : Same H H') : Dat H0 H' v d := h.up fun a o _ e _ => s a o e
theorem DatAll.same {H0 H H' : Hp} {v : List V} {d : List Dv} (h : DatAll H0 H v d) (s : Same H H') : DatAll H0 H' v d := h.up fun a o _ e _ => s a o e
theorem DatAll.length {H0 H : Hp} : ∀ {vs : List V} {ds : List Dv}, DatAll H0 H vs ds → vs.length = ds.length
  | _, _, .nil => rfl
  | _, _, .cons _ k => congrArg Nat.succ k.length
theorem DatAll.get {H0 H : Hp} : ∀ {vs : List V} {ds : List Dv}, DatAll H0 H vs ds → ∀ (i : Nat) (v : V), vs[i]? = some v → ∃ d, ds[i]? = some d ∧ Dat H0 H v d
  | _, _, .nil, i, v, e => by simp at e
  | _, _, .cons h k, 0, v, e => by cases e; exact ⟨_, rfl, h⟩
  | _, _, .cons h k, i + 1, v, e => k.get i v e
theorem Dat.row {H0 H : Hp} {v : V} {ds : List Dv} (h : Dat H0 H v (.tup ds)) : ∃ xs, RowAt H v xs ∧ DatAll H0 H xs ds := by
  cases h with
  | tup n h k => exact ⟨_, ⟨_, rfl, .inl h⟩, k⟩
section
variable {X : Cx} {e : Expr} {es : List Expr} {pos : Pos}
end
end DV

set_option maxHeartbeats 3900000
namespace FD
open PySem PySem.Spec PyProof.Rows L2 TL RP
open CB FI DV
mutual
def dpD : Dv → Nat
  | .tup l => dpDs l + 1
  | .lst l => dpDs l + 1
  | .dct => 1
  | _ => 0
def dpDs : List Dv → Nat
  | [] => 0
  | d :: r => max (dpD d) (dpDs r)
end
end FD

set_option maxHeartbeats 3900000
namespace T5
open PySem PySem.Spec PyProof.Rows L2 TL
open C8 (pss_cut tCut pe_gc)
open CB
def But3 (st l p : Addr) (H H' : Hp) : Prop := ∀ b o, H b = some o → b ≠ st → b ≠ l → b ≠ p → H' b = some o
theorem But3.trans {st l p : Addr} {H H1 H2 : Hp} (a : But3 st l p H H1) (b : But3 st l p H1 H2) : But3 st l p H H2 := fun c o h n1 n2 n3 => b c o (a c o h n1 n2 n3) n1 n2 n3
theorem But3.at {st l p : Addr} {H : Hp} {o : HO} : But3 st l p H (upd H p o) := fun c o' h n1 n2 n3 => by rw [upd_ne n3]; exact h
theorem Strm.tup_ne {H : Hp} {st l : Addr} {c : Nat} {t : Addr} {xs : List V} (S : Strm H st l c) (h : H t = some (.tup xs)) : t ≠ st ∧ t ≠ l := by
  obtain ⟨ns, a, m, ⟨h1, h2⟩, _⟩ := S.ex
  exact ⟨ne_of h h1 (by intro z; cases z), ne_of h h2 (by intro z; cases z)⟩
section
variable {P : Program} {w : World} {K : PySem.W.Frag} {mg : Str → Option Value} {base : Heap} {fD : Addr} {fdD : FuncData}
end
end T5

set_option maxHeartbeats 3900000
namespace MS
open PySem PySem.Spec PyProof.Rows L2 TL
section
variable {X : Cx} {CX : CXT} {k : Nat} {f C : Addr} {fd : FuncData} {ps : List Str} {sp : Sp} {E : L2.St → XK} {x : Str} {p pos : Pos} {e : Expr} {es : List Expr} {t : TA}
end
end MS

set_option maxHeartbeats 3900000
namespace T5
open PySem PySem.Spec PyProof.Rows L2 TL
open C8 (pss_cut tCut pe_gc)
open CB
abbrev Fs := List (List Str × Str)
def fsK (fs : Fs) : List (L2.Key × V) := fs.map fun e => (.inr (js e.1), .str e.2)
def room (fs : Fs) (p : List Str) : Bool := !(fs.any fun e => ben p e.1 || ben e.1 p)
def putF (fs : Fs) (p : List Str) (t : Str) : Fs := if p ∈ fs.map (·.1) then fs.map (fun e => if e.1 = p then (e.1, t) else e) else fs ++ [(p, t)]
theorem putF_keys (fs : Fs) (p : List Str) (t : Str) : (putF fs p t).map (·.1) = if p ∈ fs.map (·.1) then fs.map (·.1) else fs.map (·.1) ++ [p] := by
  unfold putF
  by_cases h : p ∈ fs.map (·.1)
  · rw [if_pos h, if_pos h, List.map_map]
    refine List.map_congr_left fun e _ => ?_
    show (if e.1 = p then (e.1, t) else e).1 = e.1
    split <;> rfl
  · rw [if_neg h, if_neg h, List.map_append]
    rfl
structure GoodF (zs : List Str) (fs : Fs) : Prop where
  path : ∀ e ∈ fs, e.1 ≠ [] ∧ e.1.length ≤ 3 ∧ ∀ y ∈ e.1, y ∈ zs
  text : ∀ e ∈ fs, e.2 ∈ texts
  nd : (fs.map (·.1)).Nodup
  free : ∀ p ∈ fs.map (·.1), ∀ q ∈ fs.map (·.1), ben p q = false
theorem GoodF.put {zs : List Str} {fs : Fs} {p : List Str} {t : Str} (g : GoodF zs fs) (h1 : p ≠ []) (h2 : p.length ≤ 3) (h3 : ∀ y ∈ p, y ∈ zs) (ht : t ∈ texts) (r : room fs p = true) : GoodF zs (putF fs p t) := by
  have rm : ∀ q ∈ fs.map (·.1), ben p q = false ∧ ben q p = false := fun q hq => by
    obtain ⟨e, he, rfl⟩ := List.mem_map.mp hq
    unfold room at r
    rw [Bool.not_eq_true', List.any_eq_false] at r
    have := r e he
    simp only [Bool.or_eq_true, not_or, Bool.not_eq_true] at this
    exact this
  have self : ben p p = false := by
    cases q : ben p p with
    | false => rfl
    | true =>
      unfold ben at q
      rw [Bool.and_eq_true, decide_eq_true_iff] at q
      exact absurd q.2 (Nat.lt_irrefl _)
  have keys : ∀ q ∈ (putF fs p t).map (·.1), q ∈ fs.map (·.1) ∨ q = p := fun q hq => by
    rw [putF_keys] at hq
    split at hq
    · exact .inl hq
    · exact (List.mem_append.mp hq).imp id List.mem_singleton.mp
  refine ⟨fun e he => ?_, fun e he => ?_, ?_, fun a ha b hb => ?_⟩
  · rcases keys e.1 (List.mem_map_of_mem he) with q | q
    · obtain ⟨e', he', q⟩ := List.mem_map.mp q
      rw [← q]
      exact g.path e' he'
    · rw [q]
      exact ⟨h1, h2, h3⟩
  · unfold putF at he
    split at he
    · obtain ⟨e', he', rfl⟩ := List.mem_map.mp he
      split
      · exact ht
      · exact g.text e' he'
    · rcases List.mem_append.mp he with he | he
      · exact g.text e he
      · rw [List.mem_singleton.mp he]
        exact ht
  · rw [putF_keys]
    split
    · exact g.nd
    · rename_i h
      rw [List.nodup_append]
      refine ⟨g.nd, by simp, fun a ha b hb => ?_⟩
      rw [List.mem_singleton.mp hb]
      rintro rfl
      exact h ha
  · rcases keys a ha with ha1 | ea
    · rcases keys b hb with hb1 | eb
      · exact g.free a ha1 b hb1
      · rw [eb]
        exact (rm a ha1).2
    · rw [ea]
      rcases keys b hb with hb1 | eb
      · exact (rm b hb1).1
      · rw [eb]
        exact self
section
variable {P : Program} {w : World} {K : PySem.W.Frag} {mg : Str → Option Value} {base : Heap} {fBe : Addr} {fdBe : FuncData}
end
end T5

set_option maxHeartbeats 3900000
namespace T5
open PySem PySem.Spec PyProof.Rows L2 TL
open C8 (pss_cut tCut pe_gc)
open CB
abbrev Ss := List (Str × Str)
def ssK (ss : Ss) : List (L2.Key × V) := ss.map fun e => (.inr e.1, .str e.2)
def WAt (H : Hp) (x : Addr) (fs : Fs) (ss : Ss) (z : Str) : Prop := ∃ d e, H x = some (.dK [(.inr "files", .ref d), (.inr "settings", .ref e), (.inr "tool", .str z)]) ∧ H d = some (.dK (fsK fs)) ∧ H e = some (.dK (ssK ss))
theorem WAt.same {H H' : Hp} {x : Addr} {fs : Fs} {ss : Ss} {z : Str} (h : WAt H x fs ss z) (s : Same H H') : WAt H' x fs ss z := by
  obtain ⟨d, e, h1, h2, h3⟩ := h
  exact ⟨d, e, s _ _ h1, s _ _ h2, s _ _ h3⟩
section
variable {P : Program} {w : World} {K : PySem.W.Frag} {mg : Str → Option Value} {base : Heap}
end
end T5

set_option maxHeartbeats 3900000
namespace T5
open PySem PySem.Spec PyProof.Rows L2 TL
open C8 (pss_cut tCut pe_gc)
open CB
abbrev Nm := List (Str × Bool)
def Has (fs : Fs) (q : List Str) (n : Str) (b : Bool) : Prop := ∃ e ∈ fs, ∃ r, e.1 = q ++ n :: r ∧ b = decide (r ≠ [])
structure Fm (fs : Fs) (q : List Str) (fm : Nm) : Prop where
  nd : (fm.map (·.1)).Nodup
  has : ∀ n b, (n, b) ∈ fm ↔ Has fs q n b
theorem has_take {fs : Fs} {i : Nat} (hi : i < fs.length) {q : List Str} {n : Str} {b : Bool} : Has (fs.take (i + 1)) q n b ↔ Has (fs.take i) q n b ∨ ∃ r, fs[i].1 = q ++ n :: r ∧ b = decide (r ≠ []) := by
  have tk : fs.take (i + 1) = fs.take i ++ [fs[i]] := by
    rw [List.take_succ, List.getElem?_eq_getElem hi]
    rfl
  unfold Has
  rw [tk]
  constructor
  · rintro ⟨e, he, r, h1, h2⟩
    rcases List.mem_append.mp he with he | he
    · exact .inl ⟨e, he, r, h1, h2⟩
    · rw [List.mem_singleton.mp he] at h1
      exact .inr ⟨r, h1, h2⟩
  · rintro (⟨e, he, r, h1, h2⟩ | ⟨r, h1, h2⟩)
    · exact ⟨e, List.mem_append_left _ he, r, h1, h2⟩
    · exact ⟨fs[i], List.mem_append_right _ (List.mem_singleton.mpr rfl), r, h1, h2⟩
theorem Fm.no {fs : Fs} {i : Nat} {q : List Str} {fm : Nm} (h : Fm (fs.take i) q fm) (hi : i < fs.length) (hb : ben fs[i].1 q = false) : Fm (fs.take (i + 1)) q fm := by
  refine ⟨h.nd, fun n b => (h.has n b).trans ⟨fun k => (has_take hi).mpr (.inl k), fun k => ?_⟩⟩
  rcases (has_take hi).mp k with k | ⟨r, h1, _⟩
  · exact k
  · have : ben fs[i].1 q = true := ben_iff.mpr ⟨n :: r, by simp, h1⟩
    rw [this] at hb
    cases hb
section
variable {P : Program} {w : World} {K : PySem.W.Frag} {mg : Str → Option Value} {base : Heap}
end
end T5

set_option maxHeartbeats 3900000
namespace T5
open PySem PySem.Spec PyProof.Rows L2 TL
open C8 (pss_cut tCut pe_gc)
open CB
def fOf (fs : Fs) (p : List Str) : Option Str := (fs.find? fun e => decide (e.1 = p)).map (·.2)
def sOf (ss : Ss) (n : Str) : Option Str := (ss.find? fun e => decide (e.1 = n)).map (·.2)
section
variable {H : Hp} {x d e : Addr} {z : Str}
end
section
variable {P : Program} {w : World} {K : PySem.W.Frag} {mg : Str → Option Value} {base : Heap}
end
end T5

set_option maxHeartbeats 3900000
namespace T5
open PySem PySem.Spec PyProof.Rows L2 TL RP
open C8 (pss_cut tCut pe_gc)
open CB
theorem nd_of_map {ys : Nm} (h : (ys.map (·.1)).Nodup) (s : sortedS (ys.map (·.1)) = true) : ys.Pairwise (fun a b : Str × Bool => a.1.cps.toList < b.1.cps.toList) := by
  have p := sorted_pw s h
  rw [List.pairwise_map] at p
  exact p
end T5

set_option maxHeartbeats 3900000
namespace T5
open PySem PySem.Spec PyProof.Rows L2 TL RP
open C8 (pss_cut tCut pe_gc)
open CB XW MS DV FD FI
def AnS : An → Prop
  | .tx z => z.length ≤ 20
  | _ => True
section
variable {P : Program} {w : World} {K : PySem.W.Frag} {mg : Str → Option Value} {base : Heap}
end
end T5

set_option maxHeartbeats 3900000
namespace T5
open PySem PySem.Spec PyProof.Rows L2 TL RP
open C8 (pss_cut tCut pe_gc)
open CB XW MS DV FD FI
theorem sz_of {zs : List Str} {k : Lk} {a : An} (ok : LkOn zs 3 k) (h : match a with | .es l => l.length ≤ 20 | _ => True) : Sz (k, a) := by
  cases k with
  | rd p => exact ⟨Nat.le_trans ok.2.1 (by decide), h⟩
  | ls p => exact ⟨Nat.le_trans ok.1 (by decide), h⟩
  | se n => exact ⟨trivial, h⟩
  | tl => exact ⟨trivial, h⟩
theorem on_an {zs : List Str} {a : An} {k : Lk} (h : AnOn zs a) (ok : LkOn zs 3 k) (nm : ∀ y ∈ zs, IsNm y) : AnW a ∧ AnS a ∧ Sz (k, a) := by
  cases a with
  | no => exact ⟨trivial, trivial, sz_of ok trivial⟩
  | tx z => exact ⟨h.1.1, h.1.2, sz_of ok trivial⟩
  | es l => exact ⟨⟨fun e he => nm _ (h.1 e he), Nat.le_trans h.2 (by decide)⟩, trivial, sz_of ok h.2⟩
theorem on_ok {zs : List Str} {k : Lk} (ok : LkOn zs 3 k) (nm : ∀ y ∈ zs, IsNm y) : LkOk k := by
  cases k with
  | rd p => exact ⟨ok.1, fun y hy => nm y (ok.2.2 y hy), Nat.le_trans ok.2.1 (by decide)⟩
  | ls p => exact ⟨fun y hy => nm y (ok.2 y hy), Nat.le_trans ok.1 (by decide)⟩
  | se n => exact nm n ok
  | tl => trivial
theorem tup_but {H H' : Hp} {st l : Addr} {c : Nat} (S : Strm H st l c) (B : But st l H H') : TupS H H' := fun b xs h => B b _ h (S.tup_ne h).1 (S.tup_ne h).2
section
variable {P : Program} {w : World} {K : PySem.W.Frag} {mg : Str → Option Value} {base : Heap} {fD fdW : Addr} {fdD : FuncData}
end
end T5

set_option maxHeartbeats 3900000
namespace T5
open PySem PySem.Spec PyProof.Rows L2 TL
open CB
structure Sys (T D : List Str → Prop) : Prop where
  up : ∀ {p q : List Str}, D p ∨ T p → ben p q = true → q ≠ [] → D q
  root : D []
  tn : ∀ {p}, T p → Nms p ∧ p ≠ []
  dn : ∀ {p}, D p → Nms p
  dis : ∀ {p}, T p → ¬ D p
def Own (s : Lk × An) (T D : List Str → Prop) : Prop := (∀ p, TxtOf s p → T p) ∧ ∀ p, DirOf s p → D p
theorem Own.ds {s : Lk × An} {T D : List Str → Prop} (o : Own s T D) (S : Sys T D) {p : List Str} (h : Ds s p) : D p := by
  rcases h with (rfl | d) | ⟨hp, r, d | rfl | d, b⟩
  · exact S.root
  · exact o.2 p d
  · exact S.up (.inr (o.1 r d)) b hp
  · rw [ben_nil] at b
    cases b
  · exact S.up (.inl (o.2 r d)) b hp
section
variable {ss : List (Lk × An)}
end
def oA : Option Str → An
  | none => .no
  | some t => .tx t
def Tru (fs : Fs) (ss : Ss) (z : Str) : Lk × An → Prop
  | (.rd p, a) => a = oA (fOf fs p)
  | (.ls q, a) => ∃ fm, Fm fs q fm ∧ ((fm = [] ∧ q ≠ [] ∧ a = .no) ∨ ((fm ≠ [] ∨ q = []) ∧ ∃ ys, a = .es ys ∧ List.Perm ys fm ∧ sortedS (ys.map (·.1)) = true))
  | (.se n, a) => a = oA (sOf ss n)
  | (.tl, a) => a = .tx z
theorem strict_ext {α : Type} (R : α → α → Prop) (irr : ∀ a, ¬ R a a) (asym : ∀ a b, R a b → R b a → False) : ∀ l l' : List α, l.Pairwise R → l'.Pairwise R → (∀ x, x ∈ l ↔ x ∈ l') → l = l'
  | [], [], _, _, _ => rfl
  | [], b :: r, _, _, h => absurd ((h b).mpr List.mem_cons_self) (by simp)
  | a :: r, [], _, _, h => absurd ((h a).mp List.mem_cons_self) (by simp)
  | a :: r, b :: t, p, q, h => by
    obtain ⟨pa, pr⟩ := List.pairwise_cons.mp p
    obtain ⟨qb, qt⟩ := List.pairwise_cons.mp q
    have e : a = b := by
      rcases List.mem_cons.mp ((h a).mp List.mem_cons_self) with e | ha
      · exact e
      · rcases List.mem_cons.mp ((h b).mpr List.mem_cons_self) with e | hb
        · exact e.symm
        · exact (asym a b (pa b hb) (qb a ha)).elim
    subst e
    rw [strict_ext R irr asym r t pr qt fun x => ⟨fun hx => ?_, fun hx => ?_⟩]
    · rcases List.mem_cons.mp ((h x).mp (List.mem_cons_of_mem _ hx)) with e | g
      · exact (irr a (e ▸ pa x hx)).elim
      · exact g
    · rcases List.mem_cons.mp ((h x).mpr (List.mem_cons_of_mem _ hx)) with e | g
      · exact (irr a (e ▸ qb x hx)).elim
      · exact g
theorem fm_perm {fs : Fs} {q : List Str} {fm fm' : Nm} (h : Fm fs q fm) (h' : Fm fs q fm') (x : Str × Bool) : x ∈ fm ↔ x ∈ fm' := (h.has x.1 x.2).trans (h'.has x.1 x.2).symm
theorem tru_one {fs : Fs} {ss : Ss} {z : Str} {k : Lk} {a a' : An} (h : Tru fs ss z (k, a)) (h' : Tru fs ss z (k, a')) : a = a' := by
  cases k with
  | rd p => exact (show a = oA (fOf fs p) from h).trans (show a' = oA (fOf fs p) from h').symm
  | se p => exact (show a = oA (sOf ss p) from h).trans (show a' = oA (sOf ss p) from h').symm
  | tl => exact (show a = .tx z from h).trans (show a' = .tx z from h').symm
  | ls q =>
    obtain ⟨fm, hf, h⟩ := h
    obtain ⟨fm', hf', h'⟩ := h'
    have emp : ∀ {f f' : Nm}, (∀ x, x ∈ f ↔ x ∈ f') → f = [] → f' = [] := fun {f f'} h e => List.eq_nil_iff_forall_not_mem.mpr fun x hx => by
        have := (h x).mpr hx
        rw [e] at this
        cases this
    have same : fm = [] ↔ fm' = [] := ⟨emp (fm_perm hf hf'), emp fun x => (fm_perm hf hf' x).symm⟩
    rcases h with ⟨e, n, rfl⟩ | ⟨ne, ys, rfl, pm, st⟩
    · rcases h' with ⟨e', n', rfl⟩ | ⟨ne', ys', rfl, pm', st'⟩
      · rfl
      · exact (ne'.elim (fun z => z (same.mp e)) n).elim
    · rcases h' with ⟨e', n', rfl⟩ | ⟨ne', ys', rfl, pm', st'⟩
      · exact (ne.elim (fun z => z (same.mpr e')) n').elim
      have nd : (ys.map (·.1)).Nodup := (pm.map (·.1)).nodup_iff.mpr hf.nd
      have nd' : (ys'.map (·.1)).Nodup := (pm'.map (·.1)).nodup_iff.mpr hf'.nd
      have := strict_ext (fun x y : Str × Bool => x.1.cps.toList < y.1.cps.toList) (fun a h => List.lt_irrefl _ h) (fun a b h g => List.lt_irrefl _ (lt_tr _ _ _ h g)) ys ys' (nd_of_map nd st) (nd_of_map nd' st') fun x => pm.mem_iff.trans ((fm_perm hf hf' x).trans pm'.mem_iff.symm)
      rw [this]
section
variable {zs : List Str} {fs : Fs} {ss : Ss} {z : Str}
end
end T5

set_option maxHeartbeats 3900000
namespace LE
open PySem PySem.Spec PyProof.Rows L2 TL
open C8 (pss_cut tCut pe_gc)
open CB
section
variable {X : Cx} {K0 : PySem.W.Frag}
theorem notInDK (hK : X.K = K0) (hu : X.A.units + 65 < cLine) : OpR X (compareOp .NotIn) (rNotInD K0) := by
  subst hK
  exact op_notInD hu
end
section
variable {K : PySem.W.Frag} {a D : Addr} {H1 : Hp} {σ : L2.St} {tt : TT} {te : TE} {Qd : Hp → Prop} {jk jw : Nat}
def pick (xs : List V) (p : Nat → Bool) (n : Nat) : List V := ((List.range n).filter p).map fun i => xs.getD i .non
end
end LE

set_option maxHeartbeats 3900000
namespace T5
open PySem PySem.Spec PyProof.Rows L2 TL
open CB LE
abbrev Sg := Lk × An
end T5

set_option maxHeartbeats 3900000
namespace T5
open PySem PySem.Spec PyProof.Rows L2 TL RP FI
open C8 (pss_cut tCut pe_gc)
open CB
abbrev sSame : Stmt := top 33
def spSame (K : PySem.W.Frag) : Sp := fun vs H Q _ => ∃ (v u : V) (d : PyData), vs = [v, u] ∧ Dq K H v d ∧ Dq K H u d ∧ Fine d 20 1000000 ∧ Q (.bl true) H
section
variable {P : Program} {w : World} {K : PySem.W.Frag} {mg : Str → Option Value} {base : Heap}
theorem scSame : FnScope ["_law_found", "_law_due"] ["_law_found", "_law_due"] (defScope sSame) := ⟨rfl, rfl, rfl, by decide +kernel, rfl, by decide +kernel, by decide +kernel⟩
theorem ok_same {f : Addr} {fd : FuncData} (F : Fun K "_law_same" "_law_same" sSame f fd) (mRepr : mg "repr" = none) (SM : (base.get? sysModules).isSome = true) : FnG P w K mg base CX0 1 f fd ["_law_found", "_law_due"] (spSame K) := by
  refine okG F scSame (fun vs H Q E h => ?_) (fun cdv A outer s H vs Q E hg hr h => ?_)
  · obtain ⟨v, u, d, rfl, _⟩ := h
    rfl
  · obtain ⟨v, u, d, rfl, h1, h2, fi, k⟩ := h
    have hu := hr.units
    have sz' : d.shown.length ≤ sizeLine := Nat.le_trans fi.sz (by decide)
    refine ⟨_, pss_one (ps_ret (pe_cmpR op_eq (pe_callB (call_repr SM hg hu) (by rfl) mRepr (by decide +kernel) (pa_cons (pv 0) pa_nil)) (pe_callB (call_repr SM hg hu) (by rfl) mRepr (by decide +kernel) (pa_cons (pv 1) pa_nil)) (nomark _))), ?_⟩
    refine ⟨_, rfl, v, d, rfl, h1, fi.sh, fi.dp, sz', _, rfl, u, d, rfl, h2, fi.sh, fi.dp, sz', rfl, ?_⟩
    show Q (.bl (decide (V.str d.shown = V.str d.shown))) H
    rw [decide_eq_true rfl]
    exact k
end
end T5

set_option maxHeartbeats 3900000
namespace T5
open PySem PySem.Spec PyProof.Rows L2 TL RP
open C8 (pss_cut tCut pe_gc)
open CB XW DV FD FI
def ShN (m : Nat) : Lk → Prop
  | .rd p => p.length ≤ m
  | .ls p => p.length ≤ m
  | _ => True
theorem dq_strs {K : PySem.W.Frag} {H : Hp} : ∀ l : List Str, DqAll K H (l.map V.str) (l.map PyData.str)
  | [] => .nil
  | z :: r => .cons (.str z) (dq_strs r)
theorem js_small {p : List Str} (h : Nms p) : ∀ c ∈ tl (js p), c < 128 := by
  rw [tl_js]
  exact jl_small h
structure Dn (s : Lk × An) : Prop where
  ok : SiOk' s
  sz : Sz s
  an : AnS s.2
  lk : ShN 3 s.1
theorem lkS_fine {k : Lk} (ok : LkOk k) (sh : ShN 3 k) : ∀ x ∈ (lkS k).map PyData.str, Fine x 0 302 := by
  have js27 : ∀ {p : List Str}, Nms p → p.length ≤ 3 → Fine (.str (js p)) 0 302 := fun {p} h l => (fine_str (n := 30) (fun c hc => by have := js_small h c hc; omega) (by have := js_len h; omega)).up (Nat.le_refl _) (by decide)
  have w : ∀ z ∈ (["read", "list", "setting", "tool"] : List Str), Fine (.str z) 0 302 := by
    intro z hz
    simp only [List.mem_cons, List.not_mem_nil, or_false] at hz
    rcases hz with rfl | rfl | rfl | rfl <;> exact ⟨by decide +kernel, by decide +kernel, by decide +kernel⟩
  intro x hx
  cases k with
  | rd p =>
    simp only [lkS, List.map_cons, List.map_nil, List.mem_cons, List.not_mem_nil, or_false] at hx
    rcases hx with rfl | rfl
    · exact w _ (by decide +kernel)
    · exact js27 ok.2.1 sh
  | ls p =>
    simp only [lkS, List.map_cons, List.map_nil, List.mem_cons, List.not_mem_nil, or_false] at hx
    rcases hx with rfl | rfl
    · exact w _ (by decide +kernel)
    · exact js27 ok.1 sh
  | se n =>
    simp only [lkS, List.map_cons, List.map_nil, List.mem_cons, List.not_mem_nil, or_false] at hx
    rcases hx with rfl | rfl
    · exact w _ (by decide +kernel)
    · exact (fine_str (n := 8) (fun c hc => by have := (show IsNm n from ok).2.2 c hc; omega) (show IsNm n from ok).2.1).up (Nat.le_refl _) (by decide)
  | tl =>
    simp only [lkS, List.map_cons, List.map_nil, List.mem_cons, List.not_mem_nil, or_false] at hx
    subst hx
    exact w _ (by decide +kernel)
theorem lkS_len (k : Lk) : ((lkS k).map PyData.str).length ≤ 2 := by
  cases k <;> simp [lkS]
theorem fine_any {ds : List PyData} {n m dep e : Nat} {d : PyData} (h : ∀ x ∈ ds, Fine x dep n) (hm : 3 + ds.length * (n + 2) ≤ m) (he : dep + 1 ≤ e) (q : d = .tuple ds ∨ d = .list ds) : Fine d e m := by
  rcases q with rfl | rfl
  · exact (Fine.tup h hm).up he (Nat.le_refl _)
  · exact (Fine.lst h (by omega)).up he (Nat.le_refl _)
theorem row_dq {K : PySem.W.Frag} {H : Hp} {v : V} {xs : List V} {ds : List PyData} (h : RowAt H v xs) (a : DqAll K H xs ds) : ∃ d, Dq K H v d ∧ (d = .tuple ds ∨ d = .list ds) := by
  obtain ⟨b, rfl, h | h⟩ := h
  · exact ⟨_, .tup h a, .inl rfl⟩
  · exact ⟨_, .lst h a, .inr rfl⟩
theorem ents_dq {K : PySem.W.Frag} {H : Hp} : ∀ l : List (Str × Bool), DqAll K H (l.map entV) ((l.map fun e => ent e.1 e.2).map PyData.str)
  | [] => .nil
  | e :: r => .cons (.str _) (ents_dq r)
theorem ents_fine {l : List (Str × Bool)} (h : ∀ e ∈ l, IsNm e.1) : ∀ x ∈ (l.map fun e => ent e.1 e.2).map PyData.str, Fine x 0 92 := by
  intro x hx
  rw [List.map_map] at hx
  obtain ⟨e, he, rfl⟩ := List.mem_map.mp hx
  refine fine_str (n := 9) (fun c hc => ?_) ?_
  · rw [tl_ent] at hc
    rcases List.mem_append.mp hc with q | q
    · have := (h e he).2.2 c q
      omega
    · split at q
      · rw [List.mem_singleton.mp q]
        decide
      · cases q
  · have := (h e he).2.1
    rw [len_tl, tl_ent, List.length_append, ← len_tl]
    cases e.2 <;> simp <;> omega
theorem an_dq {K : PySem.W.Frag} {H : Hp} {v : V} {k : Lk} {a : An} (h : AnIn H v a) (d : Dn (k, a)) : ∃ e, Dq K H v e ∧ Fine e 1 1900 := by
  cases a with
  | no =>
    cases (show v = .non from h)
    exact ⟨.none, .non, fine_non.up (by decide) (by decide)⟩
  | tx z =>
    cases (show v = .str z from h)
    have oz : PyData.strOk z = true := d.ok.2.2
    refine ⟨_, .str z, (fine_str (n := 20) (fun c hc => ?_) d.an).up (by decide) (by decide)⟩
    have := Array.all_eq_true_iff_forall_mem.mp oz c (Array.mem_toList_iff.mp hc)
    have := of_decide_eq_true this
    omega
  | es l =>
    obtain ⟨e, he, q⟩ := row_dq h (ents_dq (K := K) (H := H) l)
    refine ⟨e, he, fine_any (ents_fine d.ok.2.2.1) ?_ (Nat.le_refl 1) q⟩
    have : l.length ≤ 20 := d.sz.2
    rw [List.length_map, List.length_map]
    omega
theorem lk_dq {K : PySem.W.Frag} {H : Hp} {v : V} {k : Lk} (h : RowAt H v (lkV k)) (ok : LkOk k) (sh : ShN 3 k) : ∃ e, Dq K H v e ∧ Fine e 1 1900 := by
  rw [lkV_S] at h
  obtain ⟨e, he, q⟩ := row_dq h (dq_strs (K := K) (H := H) (lkS k))
  refine ⟨e, he, fine_any (lkS_fine ok sh) ?_ (Nat.le_refl 1) q⟩
  have := lkS_len k
  omega
def But4 (st l R B : Addr) (H H' : Hp) : Prop := ∀ b o, H b = some o → b ≠ st → b ≠ l → b ≠ R → b ≠ B → H' b = some o
theorem But4.refl {st l p B : Addr} {H : Hp} : But4 st l p B H H := fun _ _ h _ _ _ _ => h
theorem But4.of {st l p B : Addr} {H H' : Hp} (h : But st l H H') : But4 st l p B H H' := fun b o e n1 n2 _ _ => h b o e n1 n2
theorem But4.put {st l p B : Addr} {H H' : Hp} {o : HO} (h : But4 st l p B H H') : But4 st l p B H (upd H' p o) := fun b u e n1 n2 n3 n4 => by
  rw [upd_ne n3]
  exact h b u e n1 n2 n3 n4
def El (K : PySem.W.Frag) (st l R B : Addr) (H : Hp) (x : V) (o : Option (Lk × An)) : Prop := ∀ H', But4 st l R B H H' → SgO H' x o ∧ ∃ d, Dq K H' x d ∧ Fine d 5 4000
theorem El.more {K : PySem.W.Frag} {st l R B : Addr} {H : Hp} {x : V} {o : Option (Lk × An)} {u : HO} (h : El K st l R R H x o) (n : H B = none) : El K st l R B (upd H B u) x o := fun H' b => h H' fun c w e n1 n2 n3 _ => b c w (by rw [upd_ne fun z => by rw [z, n] at e; cases e]; exact e) n1 n2 n3 fun z => by rw [z, n] at e; cases e
structure Els (K : PySem.W.Frag) (st l R B : Addr) (H : Hp) (xs : List V) (os : List (Option (Lk × An))) : Prop where
  len : xs.length = os.length
  el : ∀ (i : Nat) (x : V) (o : Option (Lk × An)), xs[i]? = some x → os[i]? = some o → El K st l R B H x o
theorem Els.more {K : PySem.W.Frag} {st l R B : Addr} {H : Hp} {xs : List V} {os : List (Option (Lk × An))} {u : HO} (h : Els K st l R R H xs os) (n : H B = none) : Els K st l R B (upd H B u) xs os := ⟨h.len, fun i x o h1 h2 => (h.el i x o h1 h2).more n⟩
theorem Els.take {K : PySem.W.Frag} {st l R B : Addr} {H : Hp} {xs : List V} {os : List (Option (Lk × An))} (h : Els K st l R B H xs os) (n : Nat) : Els K st l R B H (xs.take n) (os.take n) := by
  refine ⟨by rw [List.length_take, List.length_take, h.len], fun i x o h1 h2 => ?_⟩
  rw [List.getElem?_take] at h1 h2
  split at h1
  · rename_i c
    rw [if_pos c] at h2
    exact h.el i x o h1 h2
  · cases h1
theorem Els.drop {K : PySem.W.Frag} {st l R B : Addr} {H : Hp} {xs : List V} {os : List (Option (Lk × An))} (h : Els K st l R B H xs os) (n : Nat) : Els K st l R B H (xs.drop n) (os.drop n) := by
  refine ⟨by rw [List.length_drop, List.length_drop, h.len], fun i x o h1 h2 => ?_⟩
  rw [List.getElem?_drop] at h1 h2
  exact h.el _ x o h1 h2
theorem Els.one {K : PySem.W.Frag} {st l R B : Addr} {H : Hp} {x : V} {o : Option (Lk × An)} (h : El K st l R B H x o) : Els K st l R B H [x] [o] := by
  refine ⟨rfl, fun i y p h1 h2 => ?_⟩
  cases i with
  | zero =>
    cases h1
    cases h2
    exact h
  | succ i => cases h1
end T5

set_option maxHeartbeats 3900000
namespace T5
open PySem PySem.Spec PyProof.Rows L2 TL
open C8 (pss_cut tCut pe_gc)
open CB XW LE LR
def Zs (H : Hp) (zs : List (V × Sg)) : Prop := ∀ z ∈ zs, SiAt H z.1 z.2
theorem Zs.up {H H' : Hp} {zs : List (V × Sg)} (h : Zs H zs) (s : Same H H') : Zs H' zs := fun z hz => (h z hz).up s
def Row (H : Hp) (v : V) (ss : List Sg) : Prop := ∃ vs', RowAt H v vs' ∧ vs'.length = ss.length ∧ (∀ (i : Nat) (x : V) (s : Sg), vs'[i]? = some x → ss[i]? = some s → SiIn H x s)
theorem Row.up {H H' : Hp} {v : V} {ss : List Sg} (h : Row H v ss) (s : Same H H') : Row H' v ss := by
  obtain ⟨vs', h1, h2, h3⟩ := h
  exact ⟨vs', h1.up s, h2, fun i x y a b => (h3 i x y a b).up s⟩
theorem SisL.row {H : Hp} {D : Addr} {ss : List Sg} (h : SisL H D ss) : Row H (.ref D) ss := by
  obtain ⟨vs, hD, hl, hv⟩ := h
  exact ⟨vs, ⟨D, rfl, .inr hD⟩, hl, fun i x s a b => (hv i x s a b).in⟩
def GoodS' (ss : List Sg) : Prop := ss.length ≤ 1000 ∧ ∀ s ∈ ss, SiOk' s
theorem GoodS'.ok {ss : List Sg} (h : GoodS' ss) : ∀ s ∈ ss, SiOk s := fun s hs => (h.2 s hs).1
def SurV (H : Hp) (v : V) : Option An → Prop
  | none => v = .non
  | some a => ∃ t va, v = .ref t ∧ H t = some (.tup [va]) ∧ AnAt H va a
theorem SurV.up {H H' : Hp} {v : V} {o : Option An} (h : SurV H v o) (s : Same H H') : SurV H' v o := by
  cases o with
  | none => exact h
  | some a =>
    obtain ⟨t, va, e, h1, h2⟩ := h
    exact ⟨t, va, e, s _ _ h1, h2.up s⟩
section
variable {P : Program} {w : World} {K : PySem.W.Frag} {mg : Str → Option Value} {base : Heap} {CS CA CL fA fS fL : Addr} {fdA fdS fdL : FuncData}
end
end T5

set_option maxHeartbeats 3900000
namespace T5
open PySem PySem.Spec PyProof.Rows L2 TL
open C8 (pss_cut tCut pe_gc)
open CB XW LE LR
theorem erA_perm {α : Type} : ∀ (l : List α) (m : Nat) (h : m < l.length), (l[m] :: l.eraseIdx m).Perm l
  | x :: r, 0, _ => List.Perm.refl _
  | x :: r, m + 1, h => by
    have hm : m < r.length := by simpa using h
    have ih := erA_perm r m hm
    show (r[m]'hm :: x :: r.eraseIdx m).Perm (x :: r)
    exact (List.Perm.swap x (r[m]'hm) (r.eraseIdx m)).trans (List.Perm.cons x ih)
theorem erA_map {α : Type} (u : α → V) : ∀ (l : List α) (m : Nat), (l.map u).eraseIdx m = (l.eraseIdx m).map u
  | [], _ => rfl
  | _ :: _, 0 => rfl
  | x :: r, m + 1 => by
    show u x :: (r.map u).eraseIdx m = u x :: (r.eraseIdx m).map u
    rw [erA_map u r m]
def Ks (H : Hp) (zs : List (V × Lk)) : Prop := ∀ z ∈ zs, ∃ t, z.1 = .ref t ∧ H t = some (.tup (lkV z.2))
theorem lks_zip {H : Hp} {D : Addr} {ks : List Lk} (h : LksL H D ks) : ∃ zs : List (V × Lk), H D = some (.lst (zs.map Prod.fst)) ∧ zs.map Prod.snd = ks ∧ Ks H zs := by
  obtain ⟨vs, hD, hl, hv⟩ := h
  refine ⟨vs.zip ks, by rw [List.map_fst_zip (by omega)]; exact hD, List.map_snd_zip (by omega), fun z hz => ?_⟩
  obtain ⟨i, hi⟩ := List.mem_iff_getElem?.mp hz
  rw [List.getElem?_zip_eq_some] at hi
  exact hv i _ _ hi.1 hi.2
theorem Ks.tup {H H' : Hp} {zs : List (V × Lk)} (h : Ks H zs) (t : TupS H H') : Ks H' zs := fun z hz => by
  obtain ⟨a, e, h1⟩ := h z hz
  exact ⟨a, e, t _ _ h1⟩
section
variable {P : Program} {w : World} {K : PySem.W.Frag} {mg : Str → Option Value} {base : Heap} {fD : Addr} {fdD : FuncData}
end
end T5

set_option maxHeartbeats 3900000
namespace T5
open PySem PySem.Spec PyProof.Rows L2 TL
open C8 (pss_cut tCut pe_gc)
open CB XW LE LR
theorem SisL.len {H : Hp} {D : Addr} {ss : List Sg} {xs : List V} (h : SisL H D ss) (hD : H D = some (.lst xs)) : xs.length = ss.length := by
  obtain ⟨vs, e, vl, _⟩ := h
  rw [hD] at e
  cases e
  exact vl
section
variable {P : Program} {w : World} {K : PySem.W.Frag} {mg : Str → Option Value} {base : Heap} {fD : Addr} {fdD : FuncData}
end
end T5

set_option maxHeartbeats 3900000
namespace T5
open PySem PySem.Spec PyProof.Rows L2 TL
open C8 (pss_cut tCut pe_gc)
open CB XW LE LR
theorem any_lk {k : Lk} (h : LkW k) : ∀ {l : List Lk}, (∀ t ∈ l, LkW t) → ((l.map lkD).any fun z => z.eqv (lkD k)) = decide (k ∈ l)
  | [], _ => by simp
  | t :: l, w => by
    rw [List.map_cons, List.any_cons, any_lk h fun x hx => w x (List.mem_cons_of_mem t hx), eqv_lk (w t List.mem_cons_self) h]
    by_cases e : t = k
    · subst e
      simp
    · have e2 : ¬ k = t := fun z => e z.symm
      simp [e, e2]
theorem ks_dp {K : PySem.W.Frag} {H : Hp} {D : Addr} {zs : List (V × Lk)} (hD : H D = some (.lst (zs.map Prod.fst))) (hk : Ks H zs) : Dp K H (.ref D) (.list ((zs.map Prod.snd).map lkD)) := by
  refine .lst (SqL.of hD) ?_
  clear hD
  induction zs with
  | nil => exact .nil
  | cons z r ih =>
    obtain ⟨t, e, h⟩ := hk z List.mem_cons_self
    refine .cons ?_ (ih fun y hy => hk y (List.mem_cons_of_mem z hy))
    rw [e]
    exact lk_dp h
section
variable {P : Program} {w : World} {K : PySem.W.Frag} {mg : Str → Option Value} {base : Heap} {fD : Addr} {fdD : FuncData}
end
end T5

set_option maxHeartbeats 3900000
namespace T5
open PySem PySem.Spec PyProof.Rows L2 TL
open C8 (pss_cut tCut pe_gc)
open CB XW
section
variable {P : Program} {w : World} {K : PySem.W.Frag} {mg : Str → Option Value} {base : Heap} {CS CA fS fA : Addr} {fdS fdA : FuncData}
end
end T5

set_option maxHeartbeats 3900000
namespace T5
open PySem PySem.Spec PyProof.Rows L2 TL
open C8 (pss_cut tCut pe_gc)
open CB XW MS
structure ClIs (K : PySem.W.Frag) (C : Addr) : Prop where
  ha : PySem.W.findIn K (.ref C) "__class__" = some (some (.builtin "object.__class__"))
  hn : PySem.W.specialIn K (.builtin "object.__class__") "__get__" = some (some (.builtin "getset_descriptor.__get__"))
  ht : PySem.W.takesIn K (.builtin "object.__class__") = some true
  hm : PySem.W.mroIn K C (.type "object") = some true
  kC : PySem.W.kitOne K (.ref C) (.ref C) = some true
def SisT (H : Hp) (t : Addr) (ss : List (Lk × An)) : Prop := ∃ vs : List V, H t = some (.tup vs) ∧ vs.length = ss.length ∧ ∀ (i : Nat) (v : V) (s : Lk × An), vs[i]? = some v → ss[i]? = some s → SiAt H v s
theorem SisT.up {H H' : Hp} {t : Addr} {ss : List (Lk × An)} (h : SisT H t ss) (s : Same H H') : SisT H' t ss := by
  obtain ⟨vs, h1, h2, h3⟩ := h
  exact ⟨vs, s _ _ h1, h2, fun i v x a b => (h3 i v x a b).up s⟩
theorem SisT.tup {H H' : Hp} {t : Addr} {ss : List (Lk × An)} (h : SisT H t ss) (s : TupS H H') : SisT H' t ss := by
  obtain ⟨vs, h1, h2, h3⟩ := h
  exact ⟨vs, s _ _ h1, h2, fun i v x a b => (h3 i v x a b).tup s⟩
def RnAt (C : Addr) (H : Hp) (o : Addr) (ss : List (Lk × An)) (z : Str) : Prop := ∃ dx t, H o = some (.ins C dx [(("sights" : Str), .ref t), ("outcome", .str z)]) ∧ SisT H t ss
theorem RnAt.up {C : Addr} {H H' : Hp} {o : Addr} {ss : List (Lk × An)} {z : Str} (h : RnAt C H o ss z) (s : Same H H') : RnAt C H' o ss z := by
  obtain ⟨dx, t, h1, h2⟩ := h
  exact ⟨dx, t, s _ _ h1, h2.up s⟩
def ButO (o : Addr) (H H' : Hp) : Prop := ∀ b u, H b = some u → b ≠ o → H' b = some u
section
variable {P : Program} {w : World} {K : PySem.W.Frag} {mg : Str → Option Value} {base : Heap} {C CS CA : Addr}
end
end T5

set_option maxHeartbeats 3900000
namespace DA
open PySem PySem.Spec PyProof.Rows
abbrev NK := NestedKey
abbrev Row := NK × Value × Value
def ent (w : World) (x : Row) : DictEntry := ⟨x.1.hash w, x.2.1, x.2.2⟩
def Ky (h : Heap) (k : NK) (v : Value) : Prop := NestedIs h k v ∧ k.depth ≤ 8
theorem Ky.inj {h : Heap} {k j : NK} {v : Value} (a : Ky h k v) (b : Ky h j v) : k = j := NestedIs.inj _ _ _ a.1 b.1
section
variable {prog : Program} {w : World} {A : Around} {E : Value → Shared → Prop} {s : Shared}
theorem eq_keys {k j : NK} {u v : Value} {Q : Bool → Shared → Prop} (hu : A.units + 8 < cLine) (a : Ky s.heap k u) (b : Ky s.heap j v) (q : Q (decide (k = j)) s) : wpAny (model prog w) A (eqBool u v) Q E s := by
  have a2 := a.2
  exact eqAt_key k j A s u v a.1 b.1 (by omega) _ _ _ _ (by rw [← NestedKey.decide_eq]; exact q)
theorem calm_keys {k : NK} {v : Value} {Q : Bool → Shared → Prop} (a : Ky s.heap k v) (q : Q true s) : wpAny (model prog w) A (eqIsQuiet 8 v) Q E s := quiet_key k v 8 s a.1 a.2 A E Q q
theorem tells_not {k : NK} {v : Value} {us : List Value} {Q : Bool → Shared → Prop} (a : Ky s.heap k v) (all : ∀ u ∈ us, ∃ j, Ky s.heap j u) (q : Q false s) : wpAny (model prog w) A (tableMayTell v us) Q E s := by
  unfold tableMayTell
  split
  · exact wpAny_pure q
  · refine wpAny_bind (calm_keys a ?_)
    simp only [Bool.not_true, Bool.false_eq_true, if_false]
    refine wpAny_bind (wpAny_forIn_list _ (fun left r s1 => s1 = s ∧ r = (none, ()) ∧ ∀ u ∈ left, ∃ j, Ky s.heap j u) _ ?_ ?_ _ _ ⟨rfl, rfl, all⟩)
    · rintro u left r s1 ⟨e1, e2, al⟩
      subst e1
      subst e2
      obtain ⟨j, hj⟩ := al u List.mem_cons_self
      refine wpAny_bind (calm_keys hj ?_)
      simp only [Bool.not_true, Bool.false_eq_true, if_false]
      exact wpAny_pure ⟨rfl, rfl, fun z hz => al z (List.mem_cons_of_mem _ hz)⟩
    · rintro r s1 ⟨e1, e2, _⟩
      subst e1
      subst e2
      exact wpAny_pure q
end
structure At (w : World) (h : Heap) (d : Addr) (o : Obj) (es : Array DictEntry) (ep : Nat) (xs : List Row) : Prop where
  ob : h.get? d = some o
  ex : o.ExactDict
  da : o.data = .dict es ep
  en : es.toList = xs.map (ent w)
  nd : (xs.map (·.1)).Nodup
theorem At.size {w : World} {h : Heap} {d : Addr} {o : Obj} {es : Array DictEntry} {ep : Nat} {xs : List Row} (T : At w h d o es ep xs) : es.size = xs.length := by
  have := congrArg List.length T.en
  rw [List.length_map] at this
  simpa using this
theorem At.row {w : World} {h : Heap} {d : Addr} {o : Obj} {es : Array DictEntry} {ep : Nat} {xs : List Row} (T : At w h d o es ep xs) (i : Nat) : es[i]? = (xs[i]?).map (ent w) := by
  have := congrArg (fun l => l[i]?) T.en
  simpa [List.getElem?_map] using this
theorem At.one {w : World} {h : Heap} {d : Addr} {o : Obj} {es : Array DictEntry} {ep : Nat} {xs : List Row} (T : At w h d o es ep xs) {i j : Nat} {x y : Row} (hx : xs[i]? = some x) (hy : xs[j]? = some y) (e : x.1 = y.1) : i = j := by
  have a : (xs.map (·.1))[i]? = some x.1 := by rw [List.getElem?_map, hx]; rfl
  have b : (xs.map (·.1))[j]? = some x.1 := by rw [List.getElem?_map, hy, e]; rfl
  exact (List.getElem?_inj (List.getElem?_eq_some_iff.mp a).1 T.nd).mp (a.trans b.symm)
def Hit (xs : List Row) (k : NK) (done : List Nat) (hit : Option Nat) : Prop := (hit = none ∧ ∀ i ∈ done, ∀ x, xs[i]? = some x → x.1 ≠ k) ∨ ∃ i x, hit = some i ∧ i ∈ done ∧ xs[i]? = some x ∧ x.1 = k
theorem Hit.more {xs : List Row} {k : NK} {done : List Nat} {hit : Option Nat} {i : Nat} (h : Hit xs k done hit) (n : ∀ x, xs[i]? = some x → x.1 ≠ k) : Hit xs k (done ++ [i]) hit := by
  rcases h with ⟨e, a⟩ | ⟨j, x, e, m, hx, q⟩
  · refine .inl ⟨e, fun j hj => ?_⟩
    rcases List.mem_append.mp hj with z | z
    · exact a j z
    · rw [List.mem_singleton.mp z]
      exact n
  · exact .inr ⟨j, x, e, List.mem_append_left _ m, hx, q⟩
theorem Hit.first {w : World} {h : Heap} {d : Addr} {o : Obj} {es : Array DictEntry} {ep : Nat} {xs : List Row} {k : NK} {P done left : List Nat} {hit : Option Nat} {i : Nat} {x : Row} (hh : Hit xs k done hit) (T : At w h d o es ep xs) (nd : P.Nodup) (eP : P = done ++ i :: left) (hx : xs[i]? = some x) (e : x.1 = k) : hit = none := by
  rcases hh with ⟨q, _⟩ | ⟨j, y, q, m, hy, e2⟩
  · exact q
  · have ij := T.one hx hy (e.trans e2.symm)
    subst ij
    rw [eP] at nd
    have := (List.nodup_append.mp nd).2.2 i m i List.mem_cons_self
    exact absurd rfl this
section
variable {prog : Program} {w : World} {A : Around} {E : Value → Shared → Prop} {s : Shared} {d : Addr} {o : Obj} {es : Array DictEntry} {ep : Nat} {xs : List Row} {k : NK} {v : Value}
theorem walk_plain {P : List Nat} {Q : Option Nat → Shared → Prop} (hu : A.units + 8 < cLine) (hk : Ky s.heap k v) (T : At w s.heap d o es ep xs) (all : ∀ x ∈ xs, Ky s.heap x.1 x.2.1)
    (no : (∀ i ∈ P, ∀ x, xs[i]? = some x → x.1 ≠ k) → Q none s) (yes : ∀ i x, i ∈ P → xs[i]? = some x → x.1 = k → Q (some i) s) : wpAny (model prog w) A (dictWalkPlain d v (k.hash w) es P) Q E s := by
  unfold dictWalkPlain
  refine wpAny_bind (wpAny_forIn_list _ (fun left r s1 => s1 = s ∧ r = (none, ()) ∧ ∃ done, P = done ++ left ∧ ∀ i ∈ done, ∀ x, xs[i]? = some x → x.1 ≠ k) _ ?_ ?_ _ _ ⟨rfl, rfl, [], rfl, fun i h => (by cases h)⟩)
  · rintro i left r s1 ⟨e1, e2, done, eP, hd⟩
    subst e1
    subst e2
    have him : i ∈ P := by rw [eP]; exact List.mem_append_right _ List.mem_cons_self
    have nxt : P = (done ++ [i]) ++ left := by rw [eP, List.append_assoc]; rfl
    have more : (∀ x, xs[i]? = some x → x.1 ≠ k) → ∀ j ∈ done ++ [i], ∀ x, xs[j]? = some x → x.1 ≠ k := fun h j hj => by
      rcases List.mem_append.mp hj with q | q
      · exact hd j q
      · rw [List.mem_singleton.mp q]
        exact h
    cases ex : xs[i]? with
    | none =>
      rw [show es[i]? = none by rw [T.row i, ex]; rfl]
      exact wpAny_pure ⟨rfl, rfl, done ++ [i], nxt, more fun x hx => by rw [ex] at hx; cases hx⟩
    | some x =>
      rw [show es[i]? = some (ent w x) by rw [T.row i, ex]; rfl]
      have hx := all x (List.mem_of_getElem? ex)
      show wpAny _ _ (if (x.1.hash w == k.hash w) = true then _ else _) _ _ _
      by_cases eh : (x.1.hash w == k.hash w) = true
      · rw [if_pos eh]
        refine wpAny_bind (wpAny_dictEpoch T.ob T.da (wpAny_bind (eq_keys (k := x.1) (j := k) hu hx hk (wpAny_bind (wpAny_dictEpoch T.ob T.da ?_)))))
        show wpAny _ _ (if (ep != ep) = true then _ else _) _ _ _
        rw [if_neg (by simp)]
        by_cases e : x.1 = k
        · rw [decide_eq_true e]
          exact wpAny_bind (wpAny_rule (wpAny_pure (wpAny_pure (yes i x him ex e))))
        · rw [decide_eq_false e]
          exact wpAny_bind (wpAny_rule (wpAny_pure ⟨rfl, rfl, done ++ [i], nxt, more fun y hy q => by
            rw [ex] at hy
            cases hy
            exact e q⟩))
      · rw [if_neg eh]
        exact wpAny_pure ⟨rfl, rfl, done ++ [i], nxt, more fun y hy e => by
          rw [ex] at hy
          cases hy
          rw [e] at eh
          exact eh (beq_self_eq_true _)⟩
  · rintro r s1 ⟨e1, e2, done, eP, hd⟩
    subst e1
    subst e2
    rw [List.append_nil] at eP
    subst eP
    exact wpAny_pure (no hd)
theorem places_in (T : At w s.heap d o es ep xs) {i : Nat} {x : Row} (hx : xs[i]? = some x) (e : x.1 = k) : i ∈ placesWithHash es.size (fun i => Option.map (fun x => x.hash) es[i]?) (k.hash w) := by
  unfold placesWithHash
  refine List.mem_filter.mpr ⟨List.mem_range.mpr ?_, ?_⟩
  · rw [T.size]
    exact (List.getElem?_eq_some_iff.mp hx).1
  · show (Option.map (fun x => x.hash) es[i]? == some (k.hash w)) = true
    rw [T.row i, hx, ← e]
    exact beq_self_eq_true _
theorem stored_ky (T : At w s.heap d o es ep xs) (all : ∀ x ∈ xs, Ky s.heap x.1 x.2.1) (P : List Nat) : ∀ u ∈ List.filterMap (fun i => Option.map (fun x : DictEntry => x.key) es[i]?) P, ∃ j, Ky s.heap j u := by
  intro u hu
  obtain ⟨i, _, e⟩ := List.mem_filterMap.mp hu
  rw [T.row i] at e
  cases ex : xs[i]? with
  | none => rw [ex] at e; cases e
  | some x =>
    rw [ex] at e
    cases e
    exact ⟨x.1, all x (List.mem_of_getElem? ex)⟩
theorem find {Q : Option Nat → Shared → Prop} (hu : A.units + 8 < cLine) (hk : Ky s.heap k v) (T : At w s.heap d o es ep xs) (all : ∀ x ∈ xs, Ky s.heap x.1 x.2.1)
    (no : (∀ x ∈ xs, x.1 ≠ k) → Q none s) (yes : ∀ i x, xs[i]? = some x → x.1 = k → Q (some i) s) : wpAny (model prog w) A (dictFind d v (k.hash w)) Q E s := by
  have hP : ∀ i x, xs[i]? = some x → x.1 = k → i ∈ placesWithHash es.size (fun i => Option.map (fun x => x.hash) es[i]?) (k.hash w) := fun i x => places_in T
  have hS := stored_ky T all (placesWithHash es.size (fun i => Option.map (fun x => x.hash) es[i]?) (k.hash w))
  have none' : (∀ i ∈ placesWithHash es.size (fun i => Option.map (fun x => x.hash) es[i]?) (k.hash w), ∀ x, xs[i]? = some x → x.1 ≠ k) → Q none s := fun h => no fun x hx e => by
    obtain ⟨i, hi⟩ := List.getElem?_of_mem hx
    exact h i (hP i x hi e) x hi e
  have hN : (placesWithHash es.size (fun i => Option.map (fun x => x.hash) es[i]?) (k.hash w)).Nodup := List.Nodup.sublist List.filter_sublist List.nodup_range
  unfold dictFind
  try with_reducible refine wpAny_holding ?_
  refine wpAny_bind (wpAny_dictEntries T.ob T.da ?_)
  dsimp only
  generalize hst : List.filterMap (fun i => Option.map (fun x : DictEntry => x.key) es[i]?) (placesWithHash es.size (fun i => Option.map (fun x => x.hash) es[i]?) (k.hash w)) = stored at hS ⊢
  generalize hp : placesWithHash es.size (fun i => Option.map (fun x => x.hash) es[i]?) (k.hash w) = P at hP none' hN ⊢
  obtain ⟨hk1, hk2⟩ := id hk
  cases hk1 with
  | none =>
    dsimp only
    by_cases c : (Value.none :: stored).all carriedByValue = true
    · rw [if_pos c]
      exact walk_plain hu hk T all none' (fun i x _ => yes i x)
    · rw [if_neg c]
      by_cases one : (stored == [Value.none]) = true <;> (first | rw [if_pos one] | rw [if_neg one]) <;> (first | refine wpAny_bind (wpAny_pure ?_) | refine wpAny_bind (tells_not hk hS ?_)) <;> (
        simp only [Bool.false_and, Bool.false_eq_true, if_false]
        refine wpAny_bind (wpAny_forIn_list _ (fun left r s1 => s1 = s ∧ ∃ done hit, r = (none, hit) ∧ P = done ++ left ∧ Hit xs NestedKey.none done hit) _ ?_ ?_ _ _ ⟨rfl, [], none, rfl, rfl, .inl ⟨rfl, fun i h => (by cases h)⟩⟩)
        · rintro i left r s1 ⟨e1, done, hit, e2, eP, hh⟩
          subst e1
          subst e2
          have nxt : P = (done ++ [i]) ++ left := by rw [eP, List.append_assoc]; rfl
          cases ex : xs[i]? with
          | none =>
            rw [show es[i]? = none by rw [T.row i, ex]; rfl]
            exact wpAny_pure ⟨rfl, done ++ [i], hit, rfl, nxt, hh.more fun x hx => by rw [ex] at hx; cases hx⟩
          | some x =>
            rw [show es[i]? = some (ent w x) by rw [T.row i, ex]; rfl]
            have hx := all x (List.mem_of_getElem? ex)
            dsimp only
            by_cases eh : ((ent w x).hash == NestedKey.hash w NestedKey.none) = true
            · rw [if_pos eh]
              refine wpAny_bind (wpAny_dictEpoch T.ob T.da (wpAny_bind (eq_keys (k := x.1) (j := NestedKey.none) hu hx hk (wpAny_bind (wpAny_dictEpoch T.ob T.da ?_)))))
              rw [if_neg (by simp)]
              by_cases e : x.1 = NestedKey.none
              · rw [decide_eq_true e, if_pos rfl]
                have h0 : hit = none := hh.first T hN eP ex e
                subst h0
                simp only [Option.isSome_none, Bool.false_eq_true, if_false]
                refine wpAny_bind (wpAny_rule ?_)
                split
                · exact wpAny_pure (wpAny_pure (yes i x ex e))
                · exact wpAny_pure ⟨rfl, done ++ [i], some i, rfl, nxt, .inr ⟨i, x, rfl, List.mem_append_right _ List.mem_cons_self, ex, e⟩⟩
              · rw [decide_eq_false e]
                simp only [Bool.false_eq_true, if_false]
                exact wpAny_bind (wpAny_rule (wpAny_pure ⟨rfl, done ++ [i], hit, rfl, nxt, hh.more fun y hy => by rw [ex] at hy; cases hy; exact e⟩))
            · rw [if_neg eh]
              exact wpAny_pure ⟨rfl, done ++ [i], hit, rfl, nxt, hh.more fun y hy q => by
                rw [ex] at hy
                cases hy
                exact eh (by show (x.1.hash w == _) = true; rw [q]; exact beq_self_eq_true _)⟩
        · rintro r s1 ⟨e1, done, hit, e2, eP, hh⟩
          subst e1
          subst e2
          rw [List.append_nil] at eP
          subst eP
          rcases hh with ⟨rfl, h⟩ | ⟨i, x, rfl, _, hx, e⟩
          · exact wpAny_pure (none' h)
          · exact wpAny_pure (yes i x hx e))
  | @bool b ki e =>
    dsimp only
    by_cases c : (Value.bool b :: stored).all carriedByValue = true
    · rw [if_pos c]
      exact walk_plain hu hk T all none' (fun i x _ => yes i x)
    · rw [if_neg c]
      by_cases one : (stored == [Value.bool b]) = true <;> (first | rw [if_pos one] | rw [if_neg one]) <;> (first | refine wpAny_bind (wpAny_pure ?_) | refine wpAny_bind (tells_not hk hS ?_)) <;> (
        simp only [Bool.false_and, Bool.false_eq_true, if_false]
        refine wpAny_bind (wpAny_forIn_list _ (fun left r s1 => s1 = s ∧ ∃ done hit, r = (none, hit) ∧ P = done ++ left ∧ Hit xs (NestedKey.num ki) done hit) _ ?_ ?_ _ _ ⟨rfl, [], none, rfl, rfl, .inl ⟨rfl, fun i h => (by cases h)⟩⟩)
        · rintro i left r s1 ⟨e1, done, hit, e2, eP, hh⟩
          subst e1
          subst e2
          have nxt : P = (done ++ [i]) ++ left := by rw [eP, List.append_assoc]; rfl
          cases ex : xs[i]? with
          | none =>
            rw [show es[i]? = none by rw [T.row i, ex]; rfl]
            exact wpAny_pure ⟨rfl, done ++ [i], hit, rfl, nxt, hh.more fun x hx => by rw [ex] at hx; cases hx⟩
          | some x =>
            rw [show es[i]? = some (ent w x) by rw [T.row i, ex]; rfl]
            have hx := all x (List.mem_of_getElem? ex)
            dsimp only
            by_cases eh : ((ent w x).hash == NestedKey.hash w (NestedKey.num ki)) = true
            · rw [if_pos eh]
              refine wpAny_bind (wpAny_dictEpoch T.ob T.da (wpAny_bind (eq_keys (k := x.1) (j := (NestedKey.num ki)) hu hx hk (wpAny_bind (wpAny_dictEpoch T.ob T.da ?_)))))
              rw [if_neg (by simp)]
              by_cases e : x.1 = (NestedKey.num ki)
              · rw [decide_eq_true e, if_pos rfl]
                have h0 : hit = none := hh.first T hN eP ex e
                subst h0
                simp only [Option.isSome_none, Bool.false_eq_true, if_false]
                refine wpAny_bind (wpAny_rule ?_)
                split
                · exact wpAny_pure (wpAny_pure (yes i x ex e))
                · exact wpAny_pure ⟨rfl, done ++ [i], some i, rfl, nxt, .inr ⟨i, x, rfl, List.mem_append_right _ List.mem_cons_self, ex, e⟩⟩
              · rw [decide_eq_false e]
                simp only [Bool.false_eq_true, if_false]
                exact wpAny_bind (wpAny_rule (wpAny_pure ⟨rfl, done ++ [i], hit, rfl, nxt, hh.more fun y hy => by rw [ex] at hy; cases hy; exact e⟩))
            · rw [if_neg eh]
              exact wpAny_pure ⟨rfl, done ++ [i], hit, rfl, nxt, hh.more fun y hy q => by
                rw [ex] at hy
                cases hy
                exact eh (by show (x.1.hash w == _) = true; rw [q]; exact beq_self_eq_true _)⟩
        · rintro r s1 ⟨e1, done, hit, e2, eP, hh⟩
          subst e1
          subst e2
          rw [List.append_nil] at eP
          subst eP
          rcases hh with ⟨rfl, h⟩ | ⟨i, x, rfl, _, hx, e⟩
          · exact wpAny_pure (none' h)
          · exact wpAny_pure (yes i x hx e))
  | int ki t =>
    dsimp only
    by_cases c : (Value.int ki t :: stored).all carriedByValue = true
    · rw [if_pos c]
      exact walk_plain hu hk T all none' (fun i x _ => yes i x)
    · rw [if_neg c]
      by_cases one : (stored == [Value.int ki t]) = true <;> (first | rw [if_pos one] | rw [if_neg one]) <;> (first | refine wpAny_bind (wpAny_pure ?_) | refine wpAny_bind (tells_not hk hS ?_)) <;> (
        simp only [Bool.false_and, Bool.false_eq_true, if_false]
        refine wpAny_bind (wpAny_forIn_list _ (fun left r s1 => s1 = s ∧ ∃ done hit, r = (none, hit) ∧ P = done ++ left ∧ Hit xs (NestedKey.num ki) done hit) _ ?_ ?_ _ _ ⟨rfl, [], none, rfl, rfl, .inl ⟨rfl, fun i h => (by cases h)⟩⟩)
        · rintro i left r s1 ⟨e1, done, hit, e2, eP, hh⟩
          subst e1
          subst e2
          have nxt : P = (done ++ [i]) ++ left := by rw [eP, List.append_assoc]; rfl
          cases ex : xs[i]? with
          | none =>
            rw [show es[i]? = none by rw [T.row i, ex]; rfl]
            exact wpAny_pure ⟨rfl, done ++ [i], hit, rfl, nxt, hh.more fun x hx => by rw [ex] at hx; cases hx⟩
          | some x =>
            rw [show es[i]? = some (ent w x) by rw [T.row i, ex]; rfl]
            have hx := all x (List.mem_of_getElem? ex)
            dsimp only
            by_cases eh : ((ent w x).hash == NestedKey.hash w (NestedKey.num ki)) = true
            · rw [if_pos eh]
              refine wpAny_bind (wpAny_dictEpoch T.ob T.da (wpAny_bind (eq_keys (k := x.1) (j := (NestedKey.num ki)) hu hx hk (wpAny_bind (wpAny_dictEpoch T.ob T.da ?_)))))
              rw [if_neg (by simp)]
              by_cases e : x.1 = (NestedKey.num ki)
              · rw [decide_eq_true e, if_pos rfl]
                have h0 : hit = none := hh.first T hN eP ex e
                subst h0
                simp only [Option.isSome_none, Bool.false_eq_true, if_false]
                refine wpAny_bind (wpAny_rule ?_)
                split
                · exact wpAny_pure (wpAny_pure (yes i x ex e))
                · exact wpAny_pure ⟨rfl, done ++ [i], some i, rfl, nxt, .inr ⟨i, x, rfl, List.mem_append_right _ List.mem_cons_self, ex, e⟩⟩
              · rw [decide_eq_false e]
                simp only [Bool.false_eq_true, if_false]
                exact wpAny_bind (wpAny_rule (wpAny_pure ⟨rfl, done ++ [i], hit, rfl, nxt, hh.more fun y hy => by rw [ex] at hy; cases hy; exact e⟩))
            · rw [if_neg eh]
              exact wpAny_pure ⟨rfl, done ++ [i], hit, rfl, nxt, hh.more fun y hy q => by
                rw [ex] at hy
                cases hy
                exact eh (by show (x.1.hash w == _) = true; rw [q]; exact beq_self_eq_true _)⟩
        · rintro r s1 ⟨e1, done, hit, e2, eP, hh⟩
          subst e1
          subst e2
          rw [List.append_nil] at eP
          subst eP
          rcases hh with ⟨rfl, h⟩ | ⟨i, x, rfl, _, hx, e⟩
          · exact wpAny_pure (none' h)
          · exact wpAny_pure (yes i x hx e))
  | text z t =>
    dsimp only
    by_cases str : (es.all fun e => isExactStrKey e.key) = true
    · rw [if_pos str]
      unfold foundByValue
      have sx : ∀ x ∈ xs, ∃ y u, x.2.1 = Value.str y u ∧ x.1 = NestedKey.text y := fun x hx => by
        have h1 : isExactStrKey x.2.1 = true := by
          have := Array.all_eq_true_iff_forall_mem.mp str (ent w x) (Array.mem_toList_iff.mp (by rw [T.en]; exact List.mem_map_of_mem hx))
          exact this
        have h2 := (all x hx).1
        generalize x.2.1 = v1 at h1 h2 ⊢
        generalize x.1 = k1 at h2 ⊢
        cases h2 with
        | text y u => exact ⟨y, u, rfl, rfl⟩
        | _ => cases h1
      cases hf : es.findIdx? (fun e => e.key.isStr z) with
      | none =>
        refine wpAny_pure (no fun x hx e => ?_)
        have h1 := Array.findIdx?_eq_none_iff.mp hf (ent w x) (Array.mem_toList_iff.mp (by rw [T.en]; exact List.mem_map_of_mem hx))
        obtain ⟨y, u, e1, e2⟩ := sx x hx
        rw [e2] at e
        cases e
        have h3 : (ent w x).key.isStr z = true := by
          show x.2.1.isStr z = true
          rw [e1]
          simp [Value.isStr]
        rw [h3] at h1
        cases h1
      | some i =>
        obtain ⟨hi, hz, _⟩ := Array.findIdx?_eq_some_iff_getElem.mp hf
        have h0 : es[i]? = some es[i] := Array.getElem?_eq_getElem hi
        obtain ⟨x, ex⟩ : ∃ x, xs[i]? = some x := ⟨xs[i]'(by rw [← T.size]; exact hi), List.getElem?_eq_getElem _⟩
        have h1 : es[i]? = some (ent w x) := by rw [T.row i, ex]; rfl
        rw [h0] at h1
        have h2 := Option.some.inj h1
        dsimp only
        rw [h0, h2]
        have hm := List.mem_of_getElem? ex
        obtain ⟨y, u, e1, e2⟩ := sx x hm
        have h3 : (ent w x).key.isStr z = true := h2 ▸ hz
        have h4 : y = z := by
          have : x.2.1.isStr z = true := h3
          rw [e1] at this
          exact eq_of_beq this
        have e : x.1 = NestedKey.text z := by rw [e2, h4]
        refine wpAny_bind (wpAny_dictEpoch T.ob T.da (wpAny_bind (eq_keys (k := x.1) (j := NestedKey.text z) hu (all x hm) hk (wpAny_bind (wpAny_dictEpoch T.ob T.da ?_)))))
        show wpAny _ _ (if (ep != ep) = true then _ else _) _ _ _
        rw [if_neg (by simp), decide_eq_true e]
        exact wpAny_bind (wpAny_rule (wpAny_pure (yes i x ex e)))
    rw [if_neg str]
    by_cases c : (Value.str z t :: stored).all carriedByValue = true
    · rw [if_pos c]
      exact walk_plain hu hk T all none' (fun i x _ => yes i x)
    · rw [if_neg c]
      by_cases one : (stored == [Value.str z t]) = true <;> (first | rw [if_pos one] | rw [if_neg one]) <;> (first | refine wpAny_bind (wpAny_pure ?_) | refine wpAny_bind (tells_not hk hS ?_)) <;> (
        simp only [Bool.false_and, Bool.false_eq_true, if_false]
        refine wpAny_bind (wpAny_forIn_list _ (fun left r s1 => s1 = s ∧ ∃ done hit, r = (none, hit) ∧ P = done ++ left ∧ Hit xs (NestedKey.text z) done hit) _ ?_ ?_ _ _ ⟨rfl, [], none, rfl, rfl, .inl ⟨rfl, fun i h => (by cases h)⟩⟩)
        · rintro i left r s1 ⟨e1, done, hit, e2, eP, hh⟩
          subst e1
          subst e2
          have nxt : P = (done ++ [i]) ++ left := by rw [eP, List.append_assoc]; rfl
          cases ex : xs[i]? with
          | none =>
            rw [show es[i]? = none by rw [T.row i, ex]; rfl]
            exact wpAny_pure ⟨rfl, done ++ [i], hit, rfl, nxt, hh.more fun x hx => by rw [ex] at hx; cases hx⟩
          | some x =>
            rw [show es[i]? = some (ent w x) by rw [T.row i, ex]; rfl]
            have hx := all x (List.mem_of_getElem? ex)
            dsimp only
            by_cases eh : ((ent w x).hash == NestedKey.hash w (NestedKey.text z)) = true
            · rw [if_pos eh]
              refine wpAny_bind (wpAny_dictEpoch T.ob T.da (wpAny_bind (eq_keys (k := x.1) (j := (NestedKey.text z)) hu hx hk (wpAny_bind (wpAny_dictEpoch T.ob T.da ?_)))))
              rw [if_neg (by simp)]
              by_cases e : x.1 = (NestedKey.text z)
              · rw [decide_eq_true e, if_pos rfl]
                have h0 : hit = none := hh.first T hN eP ex e
                subst h0
                simp only [Option.isSome_none, Bool.false_eq_true, if_false]
                refine wpAny_bind (wpAny_rule ?_)
                split
                · exact wpAny_pure (wpAny_pure (yes i x ex e))
                · exact wpAny_pure ⟨rfl, done ++ [i], some i, rfl, nxt, .inr ⟨i, x, rfl, List.mem_append_right _ List.mem_cons_self, ex, e⟩⟩
              · rw [decide_eq_false e]
                simp only [Bool.false_eq_true, if_false]
                exact wpAny_bind (wpAny_rule (wpAny_pure ⟨rfl, done ++ [i], hit, rfl, nxt, hh.more fun y hy => by rw [ex] at hy; cases hy; exact e⟩))
            · rw [if_neg eh]
              exact wpAny_pure ⟨rfl, done ++ [i], hit, rfl, nxt, hh.more fun y hy q => by
                rw [ex] at hy
                cases hy
                exact eh (by show (x.1.hash w == _) = true; rw [q]; exact beq_self_eq_true _)⟩
        · rintro r s1 ⟨e1, done, hit, e2, eP, hh⟩
          subst e1
          subst e2
          rw [List.append_nil] at eP
          subst eP
          rcases hh with ⟨rfl, h⟩ | ⟨i, x, rfl, _, hx, e⟩
          · exact wpAny_pure (none' h)
          · exact wpAny_pure (yes i x hx e))
  | @tup a oa vs n ks h1 h2 h3 h4 =>
    dsimp only
    by_cases c : (Value.ref a :: stored).all carriedByValue = true
    · rw [if_pos c]
      exact walk_plain hu hk T all none' (fun i x _ => yes i x)
    · rw [if_neg c]
      have noA : ¬ (es.any fun e => e.key == Value.ref a && e.hash != NestedKey.hash w (NestedKey.tup ks)) = true := by
        rw [← Array.any_toList, List.any_eq_true]
        rintro ⟨e, he, hc⟩
        rw [T.en] at he
        obtain ⟨x, hx, rfl⟩ := List.mem_map.mp he
        obtain ⟨c1, c2⟩ := Bool.and_eq_true_iff.mp hc
        have ek : x.2.1 = Value.ref a := eq_of_beq c1
        have hxk := all x hx
        rw [ek] at hxk
        have : x.1 = NestedKey.tup ks := hxk.inj hk
        have c3 : (ent w x).hash = NestedKey.hash w (NestedKey.tup ks) := by show x.1.hash w = _; rw [this]
        rw [c3] at c2
        simp at c2
      rw [if_neg noA]
      by_cases one : (stored == [Value.ref a]) = true <;> (first | rw [if_pos one] | rw [if_neg one]) <;> (first | refine wpAny_bind (wpAny_pure ?_) | refine wpAny_bind (tells_not hk hS ?_)) <;> (
        simp only [Bool.false_and, Bool.false_eq_true, if_false]
        refine wpAny_bind (wpAny_forIn_list _ (fun left r s1 => s1 = s ∧ ∃ done hit, r = (none, hit) ∧ P = done ++ left ∧ Hit xs (NestedKey.tup ks) done hit) _ ?_ ?_ _ _ ⟨rfl, [], none, rfl, rfl, .inl ⟨rfl, fun i h => (by cases h)⟩⟩)
        · rintro i left r s1 ⟨e1, done, hit, e2, eP, hh⟩
          subst e1
          subst e2
          have nxt : P = (done ++ [i]) ++ left := by rw [eP, List.append_assoc]; rfl
          cases ex : xs[i]? with
          | none =>
            rw [show es[i]? = none by rw [T.row i, ex]; rfl]
            exact wpAny_pure ⟨rfl, done ++ [i], hit, rfl, nxt, hh.more fun x hx => by rw [ex] at hx; cases hx⟩
          | some x =>
            rw [show es[i]? = some (ent w x) by rw [T.row i, ex]; rfl]
            have hx := all x (List.mem_of_getElem? ex)
            dsimp only
            by_cases eh : ((ent w x).hash == NestedKey.hash w (NestedKey.tup ks)) = true
            · rw [if_pos eh]
              refine wpAny_bind (wpAny_dictEpoch T.ob T.da (wpAny_bind (eq_keys (k := x.1) (j := (NestedKey.tup ks)) hu hx hk (wpAny_bind (wpAny_dictEpoch T.ob T.da ?_)))))
              rw [if_neg (by simp)]
              by_cases e : x.1 = (NestedKey.tup ks)
              · rw [decide_eq_true e, if_pos rfl]
                have h0 : hit = none := hh.first T hN eP ex e
                subst h0
                simp only [Option.isSome_none, Bool.false_eq_true, if_false]
                refine wpAny_bind (wpAny_rule ?_)
                split
                · exact wpAny_pure (wpAny_pure (yes i x ex e))
                · exact wpAny_pure ⟨rfl, done ++ [i], some i, rfl, nxt, .inr ⟨i, x, rfl, List.mem_append_right _ List.mem_cons_self, ex, e⟩⟩
              · rw [decide_eq_false e]
                simp only [Bool.false_eq_true, if_false]
                exact wpAny_bind (wpAny_rule (wpAny_pure ⟨rfl, done ++ [i], hit, rfl, nxt, hh.more fun y hy => by rw [ex] at hy; cases hy; exact e⟩))
            · rw [if_neg eh]
              exact wpAny_pure ⟨rfl, done ++ [i], hit, rfl, nxt, hh.more fun y hy q => by
                rw [ex] at hy
                cases hy
                exact eh (by show (x.1.hash w == _) = true; rw [q]; exact beq_self_eq_true _)⟩
        · rintro r s1 ⟨e1, done, hit, e2, eP, hh⟩
          subst e1
          subst e2
          rw [List.append_nil] at eP
          subst eP
          rcases hh with ⟨rfl, h⟩ | ⟨i, x, rfl, _, hx, e⟩
          · exact wpAny_pure (none' h)
          · exact wpAny_pure (yes i x hx e))
end
end DA

set_option maxHeartbeats 3900000
namespace DA
open PySem PySem.Spec PyProof.Rows L2
def kat {α : Type} (xs : List (NK × α)) (k : NK) : Option α := (xs.find? fun x => decide (x.1 = k)).map (·.2)
def kput {α : Type} (xs : List (NK × α)) (k : NK) (f : α → α) (a : α) : List (NK × α) := if k ∈ xs.map (·.1) then xs.map (fun x => if x.1 = k then (x.1, f x.2) else x) else xs ++ [(k, a)]
theorem kat_none {α : Type} {xs : List (NK × α)} {k : NK} (h : ∀ x ∈ xs, x.1 ≠ k) : kat xs k = none := by
  unfold kat
  rw [List.find?_eq_none.mpr fun x hx e => h x hx (of_decide_eq_true e)]
  rfl
theorem kat_some {α : Type} : ∀ {xs : List (NK × α)} {k : NK} {i : Nat} {x : NK × α}, (xs.map (·.1)).Nodup → xs[i]? = some x → x.1 = k → kat xs k = some x.2
  | [], k, i, x, _, h, _ => by simp at h
  | y :: r, k, 0, x, nd, h, e => by
    cases h
    unfold kat
    rw [List.find?_cons, decide_eq_true e]
    rfl
  | y :: r, k, i + 1, x, nd, h, e => by
    rw [List.map_cons, List.nodup_cons] at nd
    have hm : x ∈ r := List.mem_of_getElem? (i := i) h
    have ne : y.1 ≠ k := fun q => nd.1 (by rw [q, ← e]; exact List.mem_map_of_mem hm)
    unfold kat
    rw [List.find?_cons, decide_eq_false ne]
    exact kat_some (i := i) nd.2 h e
theorem kput_keys {α : Type} (xs : List (NK × α)) (k : NK) (f : α → α) (a : α) : (kput xs k f a).map (·.1) = if k ∈ xs.map (·.1) then xs.map (·.1) else xs.map (·.1) ++ [k] := by
  unfold kput
  by_cases h : k ∈ xs.map (·.1)
  · rw [if_pos h, if_pos h, List.map_map]
    refine List.map_congr_left fun x _ => ?_
    show (if x.1 = k then (x.1, f x.2) else x).1 = x.1
    split <;> rfl
  · rw [if_neg h, if_neg h, List.map_append]
    rfl
theorem kput_nd {α : Type} {xs : List (NK × α)} {k : NK} {f : α → α} {a : α} (nd : (xs.map (·.1)).Nodup) : ((kput xs k f a).map (·.1)).Nodup := by
  rw [kput_keys]
  by_cases h : k ∈ xs.map (·.1)
  · rw [if_pos h]
    exact nd
  · rw [if_neg h]
    refine List.nodup_append.mpr ⟨nd, List.nodup_cons.mpr ⟨List.not_mem_nil, List.nodup_nil⟩, fun x hx y hy e => h ?_⟩
    rw [List.mem_singleton.mp hy] at e
    rw [← e]
    exact hx
theorem kput_len {α : Type} (xs : List (NK × α)) (k : NK) (f : α → α) (a : α) : (kput xs k f a).length ≤ xs.length + 1 := by
  unfold kput
  split <;> simp
theorem kput_mem {α : Type} {xs : List (NK × α)} {k : NK} {f : α → α} {a : α} {x : NK × α} (h : x ∈ kput xs k f a) : x ∈ xs ∨ (x = (k, a)) ∨ ∃ y ∈ xs, y.1 = k ∧ x = (k, f y.2) := by
  unfold kput at h
  split at h
  · obtain ⟨y, hy, rfl⟩ := List.mem_map.mp h
    by_cases e : y.1 = k
    · rw [if_pos e]
      exact .inr (.inr ⟨y, hy, e, by rw [e]⟩)
    · rw [if_neg e]
      exact .inl hy
  · rcases List.mem_append.mp h with q | q
    · exact .inl q
    · exact .inr (.inl (List.mem_singleton.mp q))
def D (w : World) (h : Heap) (d : Addr) (xs : List Row) : Prop := ∃ o es ep, At w h d o es ep xs
theorem D.type {w : World} {s : Shared} {d : Addr} {xs : List Row} (x : D w s.heap d xs) : s.TypeIs (.ref d) "dict" := by
  obtain ⟨o, es, ep, T⟩ := x
  exact ⟨o, T.ob, T.ex.1⟩
def Kys (h : Heap) (xs : List Row) : Prop := ∀ x ∈ xs, Ky h x.1 x.2.1
section
variable {prog : Program} {w : World} {A : Around} {E : Value → Shared → Prop} {s : Shared} {d : Addr} {xs : List Row} {k : NK} {v : Value}
theorem get {Q : Option Value → Shared → Prop} (hu : A.units + 8 < cLine) (hk : Ky s.heap k v) (x : D w s.heap d xs) (all : Kys s.heap xs) (q : Q ((kat xs k).map (·.2)) { s with toks := s.toks + k.draws }) : wpAny (model prog w) A (dictGet d v) Q E s := by
  obtain ⟨o, es, ep, T⟩ := x
  have k2 := hk.2
  unfold dictGet
  try with_reducible refine wpAny_holding ?_
  refine wpAny_bind (pyHash_key k v A s _ hk.1 (by omega) (wpAny_bind (find (s := { s with toks := s.toks + k.draws }) hu hk T all (fun no => ?_) fun i x hx e => ?_)))
  · rw [kat_none no] at q
    exact wpAny_pure q
  · rw [kat_some T.nd hx e] at q
    refine wpAny_bind (wpAny_dictEntries (s := { s with toks := s.toks + k.draws }) T.ob T.da ?_)
    rw [T.row i, hx]
    exact wpAny_pure q
theorem At.put {o : Obj} {es : Array DictEntry} {ep : Nat} (T : At w s.heap d o es ep xs) {i : Nat} {x : Row} (hx : xs[i]? = some x) (e : x.1 = k) (r : Value) :
    D w (s.heap.update d (Obj.mapDict fun es => es.modify i fun e => { e with val := r })) d (kput xs k (fun p => (p.1, r)) (v, r)) := by
  have hin : k ∈ xs.map (·.1) := by rw [← e]; exact List.mem_map_of_mem (List.mem_of_getElem? hx)
  refine ⟨_, _, ep, Heap.get?_update_self _ T.ob (Obj.isFreed_of_dict (Obj.data_mapDict T.da _)), T.ex.mapDict _, Obj.data_mapDict T.da _, ?_, kput_nd T.nd⟩
  unfold kput
  rw [if_pos hin]
  have en := T.en
  obtain ⟨l⟩ := es
  have en : l = xs.map (ent w) := en
  subst en
  simp only [List.modify_toArray, List.map_map]
  refine List.ext_getElem? fun j => ?_
  rw [List.getElem?_modify, List.getElem?_map, List.getElem?_map]
  cases hj : xs[j]? with
  | none => rfl
  | some y =>
    by_cases ji : i = j
    · subst ji
      rw [hx] at hj
      cases hj
      simp [ent, e]
    · have ne : ¬ y.1 = k := fun q => ji (T.one hx hj (e.trans q.symm))
      simp [ji, ne]
theorem At.push {o : Obj} {es : Array DictEntry} {ep : Nat} (T : At w s.heap d o es ep xs) (no : ∀ x ∈ xs, x.1 ≠ k) (r : Value) (f : Value × Value → Value × Value) :
    D w (s.heap.update d (Obj.mapDictKeys fun es => es.push ⟨k.hash w, v, r⟩)) d (kput xs k f (v, r)) := by
  have hin : ¬ k ∈ xs.map (·.1) := fun h => by
    obtain ⟨x, hx, e⟩ := List.mem_map.mp h
    exact no x hx e
  refine ⟨_, _, ep + 1, Heap.get?_update_self _ T.ob (Obj.isFreed_of_dict (Obj.data_mapDictKeys T.da _)), T.ex.mapDictKeys _, Obj.data_mapDictKeys T.da _, ?_, kput_nd T.nd⟩
  unfold kput
  rw [if_neg hin]
  simp [T.en, ent]
theorem set {r : Value} {Q : Unit → Shared → Prop} (hu : A.units + 8 < cLine) (hk : Ky s.heap k v) (x : D w s.heap d xs) (all : Kys s.heap xs) (hz : xs.length ≤ sizeLine)
    (q : ∀ h', D w h' d (kput xs k (fun p => (p.1, r)) (v, r)) → Heap.SameBut d s.heap h' → Q () { s with heap := h', toks := s.toks + k.draws }) : wpAny (model prog w) A (dictSet d v r) Q E s := by
  obtain ⟨o, es, ep, T⟩ := x
  have k2 := hk.2
  unfold dictSet
  try with_reducible refine wpAny_holding ?_
  refine wpAny_bind (pyHash_key k v A s _ hk.1 (by omega) ?_)
  unfold dictSetHashed
  try with_reducible refine wpAny_holding ?_
  refine wpAny_bind (find (s := { s with toks := s.toks + k.draws }) hu hk T all (fun no => ?_) fun i x hx e => ?_)
  · exact wpAny_bind (wpAny_rule (wpAny_updateDictKeys (hz := by rw [T.size]; exact hz) (s := { s with toks := s.toks + k.draws }) T.ob T.da (q _ (T.push no r _) (Heap.SameBut.update ..))))
  · exact wpAny_bind (wpAny_rule (wpAny_bind (wpAny_updateDict (s := { s with toks := s.toks + k.draws }) T.ob T.da (wpAny_point (q _ (T.put hx e r) (Heap.SameBut.update ..))))))
end
end DA

set_option maxHeartbeats 3900000
namespace ES
open PySem PySem.Spec PyProof.Rows L2
end ES

set_option maxHeartbeats 3900000
namespace DA
open PySem PySem.Spec PyProof.Rows L2
section
variable {prog : Program} {w : World} {A : Around} {E : Value → Shared → Prop} {s : Shared} {d : Addr} {xs : List Row} {k : NK} {v : Value}
theorem has {Q : Bool → Shared → Prop} (hu : A.units + 9 < cLine) (hk : Ky s.heap k v) (hd : (d == sysModules) = false) (x : D w s.heap d xs) (all : Kys s.heap xs) (q : Q (kat xs k).isSome { s with toks := s.toks + k.draws }) :
    wpAny (model prog w) A (contains (.ref d) v) Q E s := by
  have hu1 : A.in1.units + 8 < cLine := by
    have : A.in1.units = A.units + 1 := rfl
    omega
  unfold contains
  try with_reducible refine wpAny_holding ?_
  refine wpAny_bind (wpAny_specialOf x.type slot_dict_contains.lookup ?_)
  dsimp only
  rw [if_neg (show ¬ ((some (Value.builtin "dict.__contains__") == some Value.none) = true) by rw [beq_builtin_none]; exact Bool.false_ne_true)]
  refine wpAny_bind (wpAny_callSpecialUnlessNone?_slot (name := Str.ofString "__contains__") x.type slot_dict_contains (wpAny_call_entry slot_dict_contains x.type entry_dict_contains ?_ (args_dict_contains _ _)))
  show wpAny _ _ (dictGet d v >>= _) _ _ _
  refine wpAny_bind (get hu1 hk x all ?_)
  cases hf : kat xs k with
  | some p =>
    rw [hf] at q
    exact wpAny_pure ⟨_, rfl, wpAny_truthy_bool q⟩
  | none =>
    rw [hf] at q
    exact wpAny_bind (wpAny_pendingKey_other hd (wpAny_pure ⟨_, rfl, wpAny_truthy_bool q⟩))
theorem setI {r : Value} {Q : Unit → Shared → Prop} (hu : A.units + 9 < cLine) (hk : Ky s.heap k v) (x : D w s.heap d xs) (all : Kys s.heap xs) (hz : xs.length ≤ sizeLine)
    (q : ∀ h', D w h' d (kput xs k (fun p => (p.1, r)) (v, r)) → Heap.SameBut d s.heap h' → Q () { s with heap := h', toks := s.toks + k.draws }) : wpAny (model prog w) A (setItem (.ref d) v r) Q E s := by
  have hu1 : A.in1.units + 8 < cLine := by
    have : A.in1.units = A.units + 1 := rfl
    omega
  unfold setItem
  try with_reducible refine wpAny_holding ?_
  refine wpAny_bind (wpAny_sequenceKey x.type (by decide) ?_)
  refine wpAny_bind (wpAny_callSpecial?_slot (name := Str.ofString "__setitem__") x.type slot_dict_setitem (wpAny_call_entry slot_dict_setitem x.type entry_dict_setitem ?_ (args_dict_setitem _ _ _)))
  show wpAny _ _ (Builtin.Dict.notOrdered _ _ >>= _) _ _ _
  refine wpAny_bind (wpAny_notOrdered_dict x.type ?_)
  show wpAny _ _ (dictSet d v r >>= _) _ _ _
  exact wpAny_bind (set hu1 hk x all hz fun h' x' sb => wpAny_pure ⟨.none, rfl, wpAny_pure (q h' x' sb)⟩)
end
mutual
/-- this value is this key, as the heap is known -/
inductive KV (H : Hp) : V → NK → Prop
  | non : KV H .non .none
  | int (i : Int) : KV H (.int i) (.num i)
  | str (z : Str) : KV H (.str z) (.text z)
  | tup {a : Addr} {vs : List V} {ks : List NK} (h : H a = some (.tup vs)) (t : KVs H vs ks) : KV H (.ref a) (.tup ks)
inductive KVs (H : Hp) : List V → List NK → Prop
  | nil : KVs H [] []
  | cons {v : V} {vs : List V} {k : NK} {ks : List NK} (h : KV H v k) (t : KVs H vs ks) : KVs H (v :: vs) (k :: ks)
end
mutual
theorem KV.up {H H' : Hp} (e : ∀ a xs, H a = some (.tup xs) → H' a = some (.tup xs)) : ∀ {v : V} {k : NK}, KV H v k → KV H' v k
  | _, _, .non => .non
  | _, _, .int i => .int i
  | _, _, .str z => .str z
  | _, _, .tup h t => .tup (e _ _ h) (KVs.up e t)
theorem KVs.up {H H' : Hp} (e : ∀ a xs, H a = some (.tup xs) → H' a = some (.tup xs)) : ∀ {v : List V} {k : List NK}, KVs H v k → KVs H' v k
  | _, _, .nil => .nil
  | _, _, .cons h t => .cons (KV.up e h) (KVs.up e t)
end
theorem KV.same {H H' : Hp} {v : V} {k : NK} (h : KV H v k) (s : Same H H') : KV H' v k := h.up fun a xs e => s a _ e
mutual
theorem KV.raw {P : Program} {w : World} {H : Hp} {h : Heap} (ok : HOk P w H h) : ∀ {v : V} {k : NK} {u : Value}, KV H v k → RelV v u → NestedIs h k u
  | _, _, u, .non, r => by
    obtain rfl : u = Value.none := r
    exact .none
  | _, _, u, .int i, r => by
    obtain ⟨t, rfl⟩ := (show ∃ t, u = Value.int i t from r)
    exact .int i t
  | _, _, u, .str z, r => by
    obtain ⟨t, rfl⟩ := (show ∃ t, u = Value.str z t from r)
    exact .text z t
  | _, _, u, .tup (a := a) e t, r => by
    obtain rfl : u = Value.ref a := r
    obtain ⟨_, its, rv, o, ho, hc, n, hd⟩ := ok _ _ e
    exact .tup ho hc hd (KVs.raw ok t (by simpa using rv))
theorem KVs.raw {P : Program} {w : World} {H : Hp} {h : Heap} (ok : HOk P w H h) : ∀ {v : List V} {k : List NK} {u : List Value}, KVs H v k → Vals v u → NestedAll h k u
  | _, _, _, .nil, r => by
    cases r
    exact .nil
  | _, _, _, .cons e t, r => by
    cases r with
    | cons r1 r2 => exact .cons (KV.raw ok e r1) (KVs.raw ok t r2)
end
abbrev HRow := NK × V × V
def Rel (rs : List HRow) (xs : List Row) : Prop := Paired (fun (r : HRow) (x : Row) => r.1 = x.1 ∧ RelV r.2.1 x.2.1 ∧ RelV r.2.2 x.2.2) rs xs
def DO (w : World) (a : Addr) (rs : List HRow) : HO := .ext fun h => (a == sysModules) = false ∧ rs.length ≤ sizeLine ∧ ∃ xs, D w h a xs ∧ Rel rs xs
end DA

set_option maxHeartbeats 3900000
namespace DA
open PySem PySem.Spec PyProof.Rows L2
def HAt (w : World) (H : Hp) (a : Addr) (kvs : List (NK × V)) : Prop := ∃ rs : List HRow, H a = some (DO w a rs) ∧ rs.map (fun r => (r.1, r.2.2)) = kvs ∧ ∀ r ∈ rs, KV H r.2.1 r.1 ∧ r.1.depth ≤ 8
def AKey (H : Hp) (y : V) (k : NK) : Prop := KV H y k ∧ k.depth ≤ 8
abbrev aput (kvs : List (NK × V)) (k : NK) (v : V) : List (NK × V) := kput kvs k (fun _ => v) v
theorem do_ne {w : World} {a : Addr} {rs : List HRow} (xs : List V) : DO w a rs ≠ .tup xs := fun z => by
  unfold DO at z
  cases z
theorem do_neL {w : World} {a : Addr} {rs : List HRow} (xs : List V) : DO w a rs ≠ .lst xs := fun z => by
  unfold DO at z
  cases z
theorem HAt.same {w : World} {H H' : Hp} {a : Addr} {kvs : List (NK × V)} (h : HAt w H a kvs) (s : Same H H') : HAt w H' a kvs := by
  obtain ⟨rs, h1, h2, h3⟩ := h
  exact ⟨rs, s _ _ h1, h2, fun r hr => ⟨(h3 r hr).1.same s, (h3 r hr).2⟩⟩
theorem HAt.keep {w : World} {H H' : Hp} {a : Addr} {kvs : List (NK × V)} (h : HAt w H a kvs) (e : ∀ rs, H a = some (DO w a rs) → H' a = some (DO w a rs)) (t : ∀ b xs, H b = some (.tup xs) → H' b = some (.tup xs)) : HAt w H' a kvs := by
  obtain ⟨rs, h1, h2, h3⟩ := h
  exact ⟨rs, e _ h1, h2, fun r hr => ⟨(h3 r hr).1.up t, (h3 r hr).2⟩⟩
theorem kat_map {α β : Type} (f : α → β) (k : NK) : ∀ xs : List (NK × α), kat (xs.map fun x => (x.1, f x.2)) k = (kat xs k).map f
  | [] => rfl
  | x :: r => by
    unfold kat
    rw [List.map_cons, List.find?_cons, List.find?_cons]
    by_cases e : x.1 = k
    · rw [decide_eq_true e]
      rfl
    · rw [decide_eq_false e]
      exact kat_map f k r
theorem kat_rel {k : NK} : ∀ {rs : List HRow} {xs : List Row}, Rel rs xs → RelO ((kat rs k).map (·.2)) ((kat xs k).map (·.2))
  | [], _, h => by
    cases h
    exact trivial
  | r :: rs, _, h => by
    cases h with
    | @cons _ x _ xs h1 h2 =>
      unfold kat
      rw [List.find?_cons, List.find?_cons]
      by_cases e : r.1 = k
      · rw [decide_eq_true e, decide_eq_true (h1.1 ▸ e)]
        exact h1.2.2
      · rw [decide_eq_false e, decide_eq_false (h1.1 ▸ e)]
        exact kat_rel h2
theorem rel_keys : ∀ {rs : List HRow} {xs : List Row}, Rel rs xs → rs.map (·.1) = xs.map (·.1)
  | [], _, h => by
    cases h
    rfl
  | r :: rs, _, h => by
    cases h with
    | cons h1 h2 => rw [List.map_cons, List.map_cons, h1.1, rel_keys h2]
theorem rel_kys {P : Program} {w : World} {H : Hp} {h : Heap} (ok : HOk P w H h) : ∀ {rs : List HRow} {xs : List Row}, Rel rs xs → (∀ r ∈ rs, KV H r.2.1 r.1 ∧ r.1.depth ≤ 8) → Kys h xs
  | [], _, q, _ => by
    cases q
    exact fun x hx => (by cases hx)
  | r :: rs, _, q, k => by
    cases q with
    | cons h1 h2 =>
      intro x hx
      rcases List.mem_cons.mp hx with rfl | hx
      · have := k r List.mem_cons_self
        exact ⟨h1.1 ▸ this.1.raw ok h1.2.1, h1.1 ▸ this.2⟩
      · exact rel_kys ok h2 (fun r hr => k r (List.mem_cons_of_mem _ hr)) x hx
theorem rel_map {f : V × V → V × V} {g : Value × Value → Value × Value} {k : NK} (fg : ∀ p q, RelV p.1 q.1 ∧ RelV p.2 q.2 → RelV (f p).1 (g q).1 ∧ RelV (f p).2 (g q).2) : ∀ {rs : List HRow} {xs : List Row}, Rel rs xs →
    Rel (rs.map fun x => if x.1 = k then (x.1, f x.2) else x) (xs.map fun x => if x.1 = k then (x.1, g x.2) else x)
  | [], _, h => by
    cases h
    exact .nil
  | r :: rs, _, h => by
    cases h with
    | @cons _ x _ xs h1 h2 =>
      refine .cons ?_ (rel_map fg h2)
      dsimp only
      by_cases e : r.1 = k
      · rw [if_pos e, if_pos (h1.1 ▸ e)]
        exact ⟨h1.1, fg _ _ h1.2⟩
      · rw [if_neg e, if_neg (h1.1 ▸ e)]
        exact h1
theorem rel_snoc {r : HRow} {x : Row} (q : r.1 = x.1 ∧ RelV r.2.1 x.2.1 ∧ RelV r.2.2 x.2.2) : ∀ {rs : List HRow} {xs : List Row}, Rel rs xs → Rel (rs ++ [r]) (xs ++ [x])
  | [], _, h => by
    cases h
    exact .cons q .nil
  | _ :: _, _, h => by
    cases h with
    | cons h1 h2 => exact .cons h1 (rel_snoc q h2)
theorem rel_put {f : V × V → V × V} {g : Value × Value → Value × Value} {k : NK} {p : V × V} {u : Value × Value} (fg : ∀ p q, RelV p.1 q.1 ∧ RelV p.2 q.2 → RelV (f p).1 (g q).1 ∧ RelV (f p).2 (g q).2) (pu : RelV p.1 u.1 ∧ RelV p.2 u.2) {rs : List HRow} {xs : List Row} (h : Rel rs xs) :
    Rel (kput rs k f p) (kput xs k g u) := by
  unfold kput
  rw [← rel_keys h]
  by_cases e : k ∈ rs.map (·.1)
  · rw [if_pos e, if_pos e]
    exact rel_map fg h
  · rw [if_neg e, if_neg e]
    exact rel_snoc ⟨rfl, pu⟩ h
theorem rel_len : ∀ {rs : List HRow} {xs : List Row}, Rel rs xs → rs.length = xs.length
  | [], _, h => by
    cases h
    rfl
  | _ :: _, _, h => by
    cases h with
    | cons h1 h2 => rw [List.length_cons, List.length_cons, rel_len h2]
section
variable {X : Cx} {pins : List (Addr × Obj)} {σ : L2.St} {H : Hp} {s : Shared} {a : Addr} {y v : V} {u r : Value} {A : Around} {E : Value → Shared → Prop} {kvs : List (NK × V)} {k : NK}
theorem a_of (I : Inv X pins σ H s) (h : HAt X.w H a kvs) : (a == sysModules) = false ∧ ∃ rs xs, H a = some (DO X.w a rs) ∧ rs.map (fun r => (r.1, r.2.2)) = kvs ∧ (∀ r ∈ rs, KV H r.2.1 r.1 ∧ r.1.depth ≤ 8) ∧ rs.length ≤ sizeLine ∧ D X.w s.heap a xs ∧ Rel rs xs ∧ Kys s.heap xs := by
  obtain ⟨rs, h1, h2, h3⟩ := h
  obtain ⟨⟨hd, hl, xs, dx, rl⟩, _⟩ := I.hok _ _ h1
  exact ⟨hd, rs, xs, h1, h2, h3, hl, dx, rl, rel_kys I.hok rl h3⟩
theorem a_key (I : Inv X pins σ H s) (h : AKey H y k) (ry : RelV y u) : Ky s.heap k u := ⟨h.1.raw I.hok ry, h.2⟩
theorem kat_vals {rs : List HRow} {xs : List Row} (e : rs.map (fun r => (r.1, r.2.2)) = kvs) (rl : Rel rs xs) : RelO (kat kvs k) ((kat xs k).map (·.2)) := by
  rw [← e, show (rs.map fun r => (r.1, r.2.2)) = rs.map (fun x => (x.1, (fun p : V × V => p.2) x.2)) from rfl, kat_map]
  exact kat_rel rl
theorem a_in {Q : Bool → Shared → Prop} (hu : A.units + 9 < cLine) (I : Inv X pins σ H s) (h : HAt X.w H a kvs) (hk : AKey H y k) (ry : RelV y u) (q : ∀ s', Inv X pins σ H s' → Q (kat kvs k).isSome s') : wpAny (model X.prog X.w) A (contains (.ref a) u) Q E s := by
  obtain ⟨hd, rs, xs, h1, h2, h3, hl, dx, rl, ky⟩ := a_of I h
  refine has hu (a_key I hk ry) hd dx ky ?_
  have e := (kat_vals (k := k) h2 rl).isSome_eq
  rw [Option.isSome_map] at e
  rw [← e]
  exact q _ (I.tok _)
theorem put_maps {rs : List HRow} (e : rs.map (fun r => (r.1, r.2.2)) = kvs) (p : V × V) (f : V × V → V × V) (g : V → V) (hf : ∀ q, (f q).2 = g q.2) : (kput rs k f p).map (fun r => (r.1, r.2.2)) = kput kvs k g p.2 := by
  have ek : rs.map (·.1) = kvs.map (·.1) := by rw [← e, List.map_map]; rfl
  unfold kput
  rw [ek]
  by_cases h : k ∈ kvs.map (·.1)
  · rw [if_pos h, if_pos h, ← e, List.map_map, List.map_map]
    refine List.map_congr_left fun x _ => ?_
    show ((if x.1 = k then (x.1, f x.2) else x).1, (if x.1 = k then (x.1, f x.2) else x).2.2) = if x.1 = k then (x.1, g x.2.2) else (x.1, x.2.2)
    by_cases c : x.1 = k
    · rw [if_pos c, if_pos c, hf]
    · rw [if_neg c, if_neg c]
  · rw [if_neg h, if_neg h, List.map_append, e]
    rfl
theorem a_write {f : V × V → V × V} {g : Value × Value → Value × Value} {gv : V → V} {h' : Heap} {t' : Nat} {rs : List HRow} {xs : List Row} (fg : ∀ p q, RelV p.1 q.1 ∧ RelV p.2 q.2 → RelV (f p).1 (g q).1 ∧ RelV (f p).2 (g q).2) (fk : ∀ q, (f q).1 = q.1) (hf : ∀ q, (f q).2 = gv q.2)
    (I : Inv X pins σ H s) (hd : (a == sysModules) = false) (h1 : H a = some (DO X.w a rs)) (h2 : rs.map (fun r => (r.1, r.2.2)) = kvs) (h3 : ∀ r ∈ rs, KV H r.2.1 r.1 ∧ r.1.depth ≤ 8) (hl : rs.length < sizeLine) (rl : Rel rs xs) (hk : AKey H y k) (ry : RelV y u) (rv : RelV v r)
    (dx : D X.w h' a (kput xs k g (u, r))) (sb : Heap.SameBut a s.heap h') :
    ∃ rs', HAt X.w (upd H a (DO X.w a rs')) a (kput kvs k gv v) ∧ Inv X pins σ (upd H a (DO X.w a rs')) { s with heap := h', toks := t' } := by
  have keep : ∀ b ys, H b = some (.tup ys) → ∀ o, upd H a o b = some (.tup ys) := fun b ys e o => by
    rw [upd_ne (ne_of e h1 fun z => do_ne ys z.symm)]
    exact e
  refine ⟨kput rs k f (y, v), ⟨_, upd_same, put_maps h2 (y, v) f gv hf, fun r' hr => ?_⟩, ?_⟩
  · rcases kput_mem hr with q | q | ⟨z, hz, ez, q⟩
    · exact ⟨(h3 r' q).1.up fun b ys e => keep b ys e _, (h3 r' q).2⟩
    · rw [q]
      exact ⟨hk.1.up fun b ys e => keep b ys e _, hk.2⟩
    · rw [q]
      have := h3 z hz
      rw [ez] at this
      exact ⟨by show KV _ (f z.2).1 k; rw [fk]; exact this.1.up fun b ys e => keep b ys e _, this.2⟩
  · have he : ∃ q, h'.get? a = some q := by
      obtain ⟨o, es, ep, T⟩ := id dx
      exact ⟨o, T.ob⟩
    refine d_write I (by rw [h1]; exact True.intro) sb he ⟨⟨hd, Nat.le_trans (kput_len _ _ _ _) hl, _, dx, rel_put fg ⟨ry, rv⟩ rl⟩, he, fun g1 g2 ⟨q1, q2, xs', q3, q4⟩ kp => ⟨q1, q2, xs', ?_, q4⟩⟩
    obtain ⟨o, es, ep, T⟩ := q3
    exact ⟨o, es, ep, kp _ T.ob, T.ex, T.da, T.en, T.nd⟩
theorem a_set {Q : Unit → Shared → Prop} (hu : A.units + 9 < cLine) (I : Inv X pins σ H s) (h : HAt X.w H a kvs) (hk : AKey H y k) (ry : RelV y u) (rv : RelV v r) (hl : kvs.length < sizeLine)
    (q : ∀ s' rs', HAt X.w (upd H a (DO X.w a rs')) a (aput kvs k v) → Inv X pins σ (upd H a (DO X.w a rs')) s' → Q () s') : wpAny (model X.prog X.w) A (setItem (.ref a) u r) Q E s := by
  obtain ⟨hd, rs, xs, h1, h2, h3, _, dx, rl, ky⟩ := a_of I h
  have l1 : rs.length < sizeLine := by rw [← h2, List.length_map] at hl; exact hl
  refine setI hu (a_key I hk ry) dx ky (by rw [← rel_len rl]; exact Nat.le_of_lt l1) fun h' dx' sb => ?_
  obtain ⟨rs', n1, n2⟩ := a_write (t' := s.toks + k.draws) (f := fun p => (p.1, v)) (g := fun p => (p.1, r)) (gv := fun _ => v) (fun p q z => ⟨z.1, rv⟩) (fun _ => rfl) (fun _ => rfl) I hd h1 h2 h3 l1 rl hk ry rv dx' sb
  exact q _ rs' n1 n2
end
end DA

set_option maxHeartbeats 3900000
namespace DA
open PySem PySem.Spec PyProof.Rows L2
def tANew (w : World) : TE := fun _ H Q => ∀ p, H p = none → HAt w (upd H p (DO w p [])) p [] → Q (.ref p) (upd H p (DO w p []))
def tAIn (w : World) (ty td : TE) : TE := fun σ H Q => ty σ H fun y H1 => td σ H1 fun x H2 => ∃ a kvs k, x = .ref a ∧ HAt w H2 a kvs ∧ AKey H2 y k ∧ Q (.bl (kat kvs k).isSome) H2
def sAPut (w : World) (td ty tv : TE) : TS := fun D σ H => tv σ H fun v H1 => td σ H1 fun x H2 => ty σ H2 fun y H3 => ∃ a kvs k, x = .ref a ∧ HAt w H3 a kvs ∧ AKey H3 y k ∧ kvs.length < sizeLine ∧ ∀ rs, HAt w (upd H3 a (DO w a rs)) a (aput kvs k v) → D.nx σ (upd H3 a (DO w a rs))
section
variable {X : Cx} {o i e f value : Expr} {pos pos' apos cpos : Pos} {td ty tz tv : TE}
theorem pe_anew : PE X (.Dict [] [] pos) (tANew X.w) := ⟨fun pins s σ H Q I h => by
  have hn := I.hok.fresh (Nat.le_refl s.heap.objs.size)
  refine wpAny_Dict_empty ⟨.ref s.heap.objs.size, _, I.laid (a := s.heap.objs.size) (o := DO X.w s.heap.objs.size []) (t' := s.toks) (fun _ _ q => Heap.get?_push_of_some _ q) (Nat.le_refl _) ?_, rfl, h _ hn ⟨[], upd_same, rfl, fun r hr => (by cases hr)⟩⟩
  have e : (s.heap.push { cls := .type "dict", data := .dict #[] }).get? s.heap.objs.size = some { cls := .type "dict", data := .dict #[] } := Heap.get?_push_size _ rfl
  exact ⟨⟨beq_eq_false_iff_ne.mpr (Ne.symm (Nat.ne_of_lt I.big)), Nat.zero_le _, [], ⟨_, #[], 0, e, ⟨rfl, rfl, rfl⟩, rfl, rfl, List.nodup_nil⟩, .nil⟩, ⟨_, e⟩, fun g1 g2 ⟨q1, q2, xs', q3, q4⟩ kp => ⟨q1, q2, xs', (by
    obtain ⟨o, es, ep, T⟩ := q3
    exact ⟨o, es, ep, kp _ T.ob, T.ex, T.da, T.en, T.nd⟩), q4⟩⟩⟩
theorem pc_ain (hu : X.A.units + 9 < cLine) (hi : PE X i ty) (ho : PE X o td) : PC X .In i o (tAIn X.w ty td) := by
  refine ⟨fun pins s σ H Q I h => ?_⟩
  refine thn (hi.run pins s σ H _ I h) fun iv s1 ⟨y, H1, I1, ry, q1⟩ => thn (ho.run pins s1 σ H1 _ I1 q1) fun u s2 ⟨x, H2, I2, rx, a, kvs, k, ex, g, hk, q2⟩ => ?_
  subst ex
  obtain rfl : u = Value.ref a := rx
  show wpAny _ _ (do return Value.bool (← contains (.ref a) iv)) _ _ s2
  exact wpAny_bind (a_in hu I2 g hk ry fun s3 I3 => wpAny_pure ⟨.bl (kat kvs k).isSome, H2, I3, rfl, q2⟩)
theorem ps_aput (hu : X.A.units + 9 < cLine) (ho : PE X o td) (hi : PE X i ty) (hv : PE X value tv) (hs : swapsWith value (some (.Subscript o i pos')) pos.line X.env = pure false) :
    PS X (.Assign [.Subscript o i pos'] value pos) (sAPut X.w td ty tv) := by
  refine ⟨fun pins s σ H D I h => ?_⟩
  refine wpAny_Assign_Subscript (thn (hv.run pins s σ H _ I h) fun r s1 ⟨v, H1, I1, rv, q1⟩ => thn (ho.run pins s1 σ H1 _ I1 q1) fun u s2 ⟨x, H2, I2, rx, q2⟩ => thn (hi.run pins s2 σ H2 _ I2 q2) fun iv s3 ⟨y, H3, I3, ry, a, kvs, k, ex, g, hk, hl, q3⟩ => ?_) hs
  subst ex
  obtain rfl : u = Value.ref a := rx
  exact a_set hu I3 g hk ry rv hl fun s4 rs n I4 => ⟨σ, _, I4, q3 rs n⟩
end
end DA

set_option maxHeartbeats 3900000
namespace DA
open PySem PySem.Spec PyProof.Rows L2
section
variable {X : Cx} {w : World} {o i e f value : Expr} {pos pos' apos cpos : Pos} {td ty tz tv : TE}
theorem pe_anewW (hw : X.w = w) : PE X (.Dict [] [] pos) (tANew w) := hw ▸ pe_anew
theorem pc_ainW (hw : X.w = w) (hu : X.A.units + 9 < cLine) (hi : PE X i ty) (ho : PE X o td) : PC X .In i o (tAIn w ty td) := hw ▸ pc_ain hu hi ho
theorem ps_aputW (hw : X.w = w) (hu : X.A.units + 9 < cLine) (ho : PE X o td) (hi : PE X i ty) (hv : PE X value tv) (hs : swapsWith value (some (.Subscript o i pos')) pos.line X.env = pure false) : PS X (.Assign [.Subscript o i pos'] value pos) (sAPut w td ty tv) := hw ▸ ps_aput hu ho hi hv hs
end
end DA

set_option maxHeartbeats 3900000
namespace EE
open PySem PySem.Spec PyProof.Rows L2
open CB
def rInT (K : PySem.W.Frag) : V → V → Hp → VK → Prop := fun x y H Q => ∃ d ds, Dp K H x d ∧ Dp K H y (.tuple ds) ∧ SeqAt.shaped d = true ∧ SeqAt.shaped (.tuple ds) = true ∧ Q (.bl (ds.any fun z => PyData.eqv z d)) H
theorem op_inT {X : Cx} (hu : X.A.units + 65 < cLine) : OpR X (compareOp .In) (rInT X.K) := by
  intro pins s σ H x y v u Q I rx ry h
  obtain ⟨d, ds, hd, he, sd, se, q⟩ := h
  obtain ⟨as, r1⟩ := Dp.reads I d x v hd rx
  obtain ⟨bs, r2⟩ := Dp.reads I (.tuple ds) y u he ry
  have c2 : PyData.canLayAll0 ds = true := SeqAt.canLay_of_shaped se
  exact SeqAt.in_tuple_reads r2 r1 c2 (SeqAt.canLay_of_shaped sd) (room_in_shaped sd hu) ⟨.bl _, H, I, rfl, q⟩
def iEnumE (K : PySem.W.Frag) (te : TE) : TI := fun σ H R => te σ H fun v H1 => ∃ a, v = .ref a ∧ ((∃ xs, SqT K H1 a xs ∧ R (ET.Itu K a xs) H1) ∨ ∃ xs, SqL K H1 a xs ∧ R (Ite K a) H1)
theorem pi_enumE {X : Cx} {e : Expr} {te : TE} {p pos tpos : Pos} {elts : List Expr} {kk : Nat} (hg : Gl X "enumerate") (hm : X.mg "enumerate" = none) (ha : PE X e te) (hs : starEach [e] X.env = [(false, eval e X.env)] := by rfl) :
    PI X (.Tuple elts kk tpos) (.Call (.Name "enumerate" p) [e] [] pos) (iEnumE X.K te) := by
  refine ⟨fun pins s σ H R I h => ?_⟩
  have arg := (pa_cons ha pa_nil hs).run pos pins s σ H (fun vs H1 => match vs with
    | [v] => ∃ a, v = .ref a ∧ ((∃ xs, SqT X.K H1 a xs ∧ R (ET.Itu X.K a xs) H1) ∨ ∃ xs, SqL X.K H1 a xs ∧ R (Ite X.K a) H1)
    | _ => False) I h
  refine Call_ (ld_blt I hg hm boot_enumerate (PyProof.Rows.callWith_type1 (thn arg fun us s1 ⟨vs, H1, I1, r1, w⟩ => ?_) hs rfl))
  obtain ⟨a, rfl, kind⟩ : ∃ a, vs = [.ref a] ∧ ((∃ xs, SqT X.K H1 a xs ∧ R (ET.Itu X.K a xs) H1) ∨ ∃ xs, SqL X.K H1 a xs ∧ R (Ite X.K a) H1) := by
    match vs, w with
    | [v], ⟨a, e, k⟩ => exact ⟨a, by rw [e], k⟩
  obtain rfl : us = [Value.ref a] := by
    cases r1 with
    | cons q qq =>
      cases qq
      cases q
      rfl
  have two : ∀ b : Addr, b ∈ [s1.heap.objs.size + 1, s1.heap.objs.size] → s1.heap.objs.size ≤ b := fun b hb => by
    rcases List.mem_cons.mp hb with z | z
    · rw [z]
      exact Nat.le_succ _
    · rw [List.mem_singleton.mp z]
      exact Nat.le_refl _
  rcases kind with ⟨xs, hq, q⟩ | ⟨xs, hq, q⟩
  · obtain ⟨its, rv, tup, hz⟩ := I1.tuple hq
    have tp : s1.heap.IsTuple a its.toArray := tup
    have lt : a < s1.heap.objs.size := by
      obtain ⟨_, z, _⟩ := tp
      exact Heap.lt_size z
    refine ET.call_enumT tp fun g hen hit kept => wpAny_pyIter_enum hen ?_
    have J : Inv X pins σ H1 { s1 with heap := g } := I1.kept (t' := s1.toks) kept
    exact ⟨s1.heap.objs.size + 1, [s1.heap.objs.size + 1, s1.heap.objs.size], _, _, H1, rfl, J, ET.turn_enumT a (s1.heap.objs.size + 1) s1.heap.objs.size xs, ⟨⟨.none, hen⟩, hit, Nat.succ_ne_self _, Nat.ne_of_lt lt, Nat.ne_of_lt (Nat.lt_succ_of_lt lt), Nat.zero_le _⟩, fun b hb => I1.fpOk (two b hb) (I1.hok.fresh (two b hb)), q⟩
  · obtain ⟨its, rv, lst, hz⟩ := I1.list hq
    refine call_enumerate_list lst.isList fun g hen hit sz kept => wpAny_pyIter_enum hen ?_
    have J : Inv X pins σ H1 { s1 with heap := g } := I1.kept (t' := s1.toks) kept
    exact ⟨s1.heap.objs.size + 1, [s1.heap.objs.size + 1, s1.heap.objs.size], _, _, H1, rfl, J, turn_enum a (s1.heap.objs.size + 1) s1.heap.objs.size, ⟨⟨.none, hen⟩, hit, Nat.succ_ne_self _⟩, fun b hb => I1.fpOk (two b hb) (I1.hok.fresh (two b hb)), q⟩
theorem for_enumE {K : PySem.W.Frag} {v : V} {xs : List V} {g : TG} {tb : TS} {D : Ends} {σ : L2.St} {H : Hp} (h : RowAt H v xs) (Pv : Nat → L2.St → Hp → Prop) (h0 : Pv 0 σ H) (keep : ∀ i τ H', Pv i τ H' → ∀ a o, v = .ref a → H a = some o → H' a = some o)
    (turn : ∀ i x T τ H', i < xs.length → Pv i τ H' → xs[i]? = some x → H' T = none → g (.ref T) τ (upd H' T (.tup [.int (i : Nat), x])) fun σ2 H2 => tb { D with nx := Pv (i + 1), ct := Pv (i + 1), bk := D.nx } σ2 H2) (done : ∀ τ H', Pv xs.length τ H' → D.nx τ H') :
    ∃ a, v = .ref a ∧ ((∃ xs, SqT K H a xs ∧ (fun (J : It) (H1 : Hp) => ∃ W : Nat → Nat → L2.St → Hp → Prop, (∃ m, W 0 m σ H1) ∧ ∀ i m σ H, W i m σ H → (J.stop i H ∧ D.nx σ H) ∨ (J.go i H ∧ ∃ N : L2.St → Hp → Prop, (∀ σ' H', N σ' H' → ∃ m', m' < m ∧ W (i + 1) m' σ' H') ∧ ∀ x H', J.yld i H x H' → g x σ H' fun σ2 H2 => tb { D with nx := N, ct := N, bk := D.nx } σ2 H2)) (ET.Itu K a xs) H) ∨
      ∃ xs, SqL K H a xs ∧ (fun (J : It) (H1 : Hp) => ∃ W : Nat → Nat → L2.St → Hp → Prop, (∃ m, W 0 m σ H1) ∧ ∀ i m σ H, W i m σ H → (J.stop i H ∧ D.nx σ H) ∨ (J.go i H ∧ ∃ N : L2.St → Hp → Prop, (∀ σ' H', N σ' H' → ∃ m', m' < m ∧ W (i + 1) m' σ' H') ∧ ∀ x H', J.yld i H x H' → g x σ H' fun σ2 H2 => tb { D with nx := N, ct := N, bk := D.nx } σ2 H2)) (Ite K a) H) := by
  obtain ⟨a, rfl, h1 | h1⟩ := h
  · refine ⟨a, rfl, .inl ⟨_, SqT.of h1, for_it (ET.walk_enumT (K := K) (a := a) (xs := xs)) Pv h0 (fun i τ H' _ p => SqT.of (keep i τ H' p _ _ rfl h1)) ?_ done⟩⟩
    rintro i x τ H' H2 hi p ⟨T, y0, y1, rfl, hT, rfl, hy0, hy1⟩
    cases hy0
    exact turn i y1 T τ _ hi p hy1 hT
  · refine ⟨a, rfl, .inr ⟨_, SqL.of h1, for_it (walk_enum (K := K) (a := a) (xs := xs)) Pv h0 (fun i τ H' _ p => SqL.of (keep i τ H' p _ _ rfl h1)) ?_ done⟩⟩
    rintro i x τ H' H2 hi p ⟨T, y0, y1, rfl, hT, rfl, hy0, hy1⟩
    cases hy0
    exact turn i y1 T τ _ hi p hy1 hT
end EE

set_option maxHeartbeats 3900000
namespace T5
open PySem PySem.Spec PyProof.Rows L2 TL
open C8 (pss_cut tCut pe_gc)
open CB XW LE LR
abbrev sPT : Stmt := top 21
abbrev sIE : Stmt := top 22
abbrev sLoA : Stmt := top 23
abbrev sUn : Stmt := top 24
abbrev sLin : Stmt := top 25
abbrev sPof : Stmt := top 26
inductive Tr
  | fin (z : Str)
  | ask (k : Lk) (cs : List (An × Tr)) (o : Tr)
abbrev Cs := List (An × Tr)
mutual
/-- it is passed: lists or tuples -/
inductive TrIn (H : Hp) : V → Tr → Prop
  | fin {v : V} {z : Str} (r : RowAt H v [.str "end", .str z]) : TrIn H v (.fin z)
  | ask {v kv cv ov : V} {xs : List V} {k : Lk} {cs : Cs} {o : Tr} (r : RowAt H v [.str "ask", kv, cv, ov]) (rk : RowAt H kv (lkV k)) (rc : RowAt H cv xs) (c : CsIn H xs cs) (t : TrIn H ov o) : TrIn H v (.ask k cs o)
inductive CsIn (H : Hp) : List V → Cs → Prop
  | nil : CsIn H [] []
  | cons {x av tv : V} {xs : List V} {a : An} {t : Tr} {cs : Cs} (r : RowAt H x [av, tv]) (ha : AnIn H av a) (ht : TrIn H tv t) (c : CsIn H xs cs) : CsIn H (x :: xs) ((a, t) :: cs)
end
mutual
/-- it is told: tuples throughout -/
inductive TrAt (H : Hp) : V → Tr → Prop
  | fin {p : Addr} {z : Str} (r : H p = some (.tup [.str "end", .str z])) : TrAt H (.ref p) (.fin z)
  | ask {p kp cp : Addr} {ov : V} {xs : List V} {k : Lk} {cs : Cs} {o : Tr} (r : H p = some (.tup [.str "ask", .ref kp, .ref cp, ov])) (rk : H kp = some (.tup (lkV k))) (rc : H cp = some (.tup xs)) (c : CsAt H xs cs) (t : TrAt H ov o) : TrAt H (.ref p) (.ask k cs o)
inductive CsAt (H : Hp) : List V → Cs → Prop
  | nil : CsAt H [] []
  | cons {p : Addr} {av tv : V} {xs : List V} {a : An} {t : Tr} {cs : Cs} (r : H p = some (.tup [av, tv])) (ha : AnAt H av a) (ht : TrAt H tv t) (c : CsAt H xs cs) : CsAt H (.ref p :: xs) ((a, t) :: cs)
end
mutual
theorem TrIn.up {H H' : Hp} (s : Same H H') : ∀ {v : V} {t : Tr}, TrIn H v t → TrIn H' v t
  | _, _, .fin r => .fin (r.up s)
  | _, _, .ask r rk rc c t => .ask (r.up s) (rk.up s) (rc.up s) (CsIn.up s c) (TrIn.up s t)
theorem CsIn.up {H H' : Hp} (s : Same H H') : ∀ {v : List V} {t : Cs}, CsIn H v t → CsIn H' v t
  | _, _, .nil => .nil
  | _, _, .cons r ha ht c => .cons (r.up s) (ha.up s) (TrIn.up s ht) (CsIn.up s c)
end
theorem AnAt.tup {H H' : Hp} {v : V} {a : An} (h : AnAt H v a) (e : TupS H H') : AnAt H' v a := by
  cases a with
  | no => exact h
  | tx z => exact h
  | es l =>
    obtain ⟨p, q, r⟩ := h
    exact ⟨p, q, e _ _ r⟩
mutual
theorem TrAt.tup {H H' : Hp} (s : TupS H H') : ∀ {v : V} {t : Tr}, TrAt H v t → TrAt H' v t
  | _, _, .fin r => .fin (s _ _ r)
  | _, _, .ask r rk rc c t => .ask (s _ _ r) (s _ _ rk) (s _ _ rc) (CsAt.tup s c) (TrAt.tup s t)
theorem CsAt.tup {H H' : Hp} (s : TupS H H') : ∀ {v : List V} {t : Cs}, CsAt H v t → CsAt H' v t
  | _, _, .nil => .nil
  | _, _, .cons r ha ht c => .cons (s _ _ r) (ha.tup s) (TrAt.tup s ht) (CsAt.tup s c)
end
theorem TrAt.up {H H' : Hp} (s : Same H H') {v : V} {t : Tr} (h : TrAt H v t) : TrAt H' v t := h.tup (TupS.of s)
theorem CsAt.up {H H' : Hp} (s : Same H H') {v : List V} {t : Cs} (h : CsAt H v t) : CsAt H' v t := h.tup (TupS.of s)
mutual
theorem TrAt.in {H : Hp} : ∀ {v : V} {t : Tr}, TrAt H v t → TrIn H v t
  | _, _, .fin r => .fin ⟨_, rfl, .inl r⟩
  | _, _, .ask r rk rc c t => .ask ⟨_, rfl, .inl r⟩ ⟨_, rfl, .inl rk⟩ ⟨_, rfl, .inl rc⟩ (CsAt.in c) (TrAt.in t)
theorem CsAt.in {H : Hp} : ∀ {v : List V} {t : Cs}, CsAt H v t → CsIn H v t
  | _, _, .nil => .nil
  | _, _, .cons r ha ht c => .cons ⟨_, rfl, .inl r⟩ ha.in (TrAt.in ht) (CsAt.in c)
end
mutual
/-- how deep -/
def dep : Tr → Nat
  | .fin _ => 0
  | .ask _ cs o => max (depC cs) (dep o) + 1
def depC : Cs → Nat
  | [] => 0
  | (_, t) :: r => max (dep t) (depC r)
end
mutual
/-- it may be passed, below these looks -/
def OkT (ab : List Lk) : Tr → Prop
  | .fin _ => True
  | .ask k cs o => LkOk k ∧ k ∉ ab ∧ (cs.map (·.1)).Nodup ∧ cs.length ≤ 100 ∧ OkC ab k cs ∧ OkT (ab ++ [k]) o
def OkC (ab : List Lk) (k : Lk) : Cs → Prop
  | [] => True
  | (a, t) :: r => SiOk' (k, a) ∧ OkT (ab ++ [k]) t ∧ OkC ab k r
end
theorem okC_mem {ab : List Lk} {k : Lk} : ∀ {cs : Cs}, OkC ab k cs → ∀ c ∈ cs, SiOk' (k, c.1) ∧ OkT (ab ++ [k]) c.2
  | (a, t) :: r, h, c, hc => by
    rcases List.mem_cons.mp hc with rfl | hc
    · exact ⟨h.1, h.2.1⟩
    · exact okC_mem h.2.2 c hc
theorem depC_mem : ∀ {cs : Cs}, ∀ c ∈ cs, dep c.2 ≤ depC cs
  | (a, t) :: r, c, hc => by
    unfold depC
    rcases List.mem_cons.mp hc with rfl | hc
    · exact Nat.le_max_left _ _
    · exact Nat.le_trans (depC_mem c hc) (Nat.le_max_right _ _)
theorem csIn_at {H : Hp} : ∀ {xs : List V} {cs : Cs}, CsIn H xs cs → xs.length = cs.length ∧ ∀ (i : Nat) (x : V), xs[i]? = some x → ∃ a t av tv, cs[i]? = some (a, t) ∧ RowAt H x [av, tv] ∧ AnIn H av a ∧ TrIn H tv t
  | _, _, .nil => ⟨rfl, fun i x h => by simp at h⟩
  | _, _, .cons r ha ht c => by
    obtain ⟨l, q⟩ := csIn_at c
    refine ⟨by rw [List.length_cons, List.length_cons, l], fun i x h => ?_⟩
    cases i with
    | zero =>
      cases h
      exact ⟨_, _, _, _, rfl, r, ha, ht⟩
    | succ i => exact q i x h
theorem csAt_snoc {H : Hp} {p : Addr} {av tv : V} {a : An} {t : Tr} (r : H p = some (.tup [av, tv])) (ha : AnAt H av a) (ht : TrAt H tv t) : ∀ {xs : List V} {cs : Cs}, CsAt H xs cs → CsAt H (xs ++ [.ref p]) (cs ++ [(a, t)])
  | _, _, .nil => .cons r ha ht .nil
  | _, _, .cons r1 h1 h2 c => .cons r1 h1 h2 (csAt_snoc r ha ht c)
theorem csAt_at {H : Hp} : ∀ {xs : List V} {cs : Cs}, CsAt H xs cs → xs.length = cs.length ∧ ∀ (i : Nat) (x : V), xs[i]? = some x → ∃ a t p av tv, cs[i]? = some (a, t) ∧ x = .ref p ∧ H p = some (.tup [av, tv]) ∧ AnAt H av a ∧ TrAt H tv t
  | _, _, .nil => ⟨rfl, fun i x h => by simp at h⟩
  | _, _, .cons r ha ht c => by
    obtain ⟨l, q⟩ := csAt_at c
    refine ⟨by rw [List.length_cons, List.length_cons, l], fun i x h => ?_⟩
    cases i with
    | zero =>
      cases h
      exact ⟨_, _, _, _, _, rfl, rfl, r, ha, ht⟩
    | succ i => exact q i x h
def anK : An → DA.NK
  | .no => .none
  | .tx z => .text z
  | .es l => .tup (l.map fun e => .text (ent e.1 e.2))
theorem keys_ents {H : Hp} : ∀ l : List (Str × Bool), DA.KVs H (l.map entV) (l.map fun e => .text (ent e.1 e.2))
  | [] => .nil
  | e :: r => .cons (.str _) (keys_ents r)
theorem depth_ents : ∀ l : List (Str × Bool), NestedKey.depthAll (l.map fun e => .text (ent e.1 e.2)) ≤ 1
  | [] => by simp [NestedKey.depthAll]
  | e :: r => by
    have := depth_ents r
    simp only [List.map_cons, NestedKey.depthAll, NestedKey.depth]
    omega
theorem an_key {H : Hp} {v : V} {a : An} (h : AnAt H v a) : DA.AKey H v (anK a) := by
  cases a with
  | no =>
    obtain rfl : v = .non := h
    exact ⟨.non, by decide⟩
  | tx z =>
    obtain rfl : v = .str z := h
    exact ⟨.str z, by show NestedKey.depth (.text z) ≤ 8; simp [NestedKey.depth]⟩
  | es l =>
    obtain ⟨p, rfl, hp⟩ := h
    refine ⟨.tup hp (keys_ents l), ?_⟩
    have := depth_ents l
    show NestedKey.depth (.tup (l.map fun e => .text (ent e.1 e.2))) ≤ 8
    simp only [NestedKey.depth]
    omega
def spIE : Sp := fun vs H Q _ => ∃ v t, vs = [v] ∧ TrIn H v t ∧ ∀ H', Same H H' → Q (.bl (match t with | .fin _ => true | _ => false)) H'
def spLoA : Sp := fun vs H Q _ => ∃ v k cs o, vs = [v] ∧ TrIn H v (.ask k cs o) ∧ LkOk k ∧ ∀ p H', Same H H' → H' p = some (.tup (lkV k)) → Q (.ref p) H'
section
variable {P : Program} {w : World} {K : PySem.W.Frag} {mg : Str → Option Value} {base : Heap}
theorem scIE : FnScope ["thing"] ["thing"] (defScope sIE) := ⟨rfl, rfl, rfl, by decide +kernel, rfl, by decide +kernel, by decide +kernel⟩
theorem ok_ie {f fR : Addr} {fd fdR : FuncData} (F : Fun K "is_end" "is_end" sIE f fd) (T : TB mg) (aRow : At K mg "is_row" fR fdR ["thing", "size"]) (GRow : FnOk P w K mg base CX0 1 fR fdR ["thing", "size"] spRow) : FnOk P w K mg base CX0 2 f fd ["thing"] spIE := by
  refine F.ok scIE (fun vs H Q E h => ?_) (fun cdv A outer s H vs Q E hr h => ?_)
  · obtain ⟨v, t, rfl, _⟩ := h
    rfl
  · obtain ⟨v, t, rfl, ht, k⟩ := h
    refine ⟨_, pss_one (ps_ret (pe_and (pe_call GRow (hr.mono (by decide)) rfl aRow.m aRow.k aRow.b .nil pass0 (pa_cons (pv 0) (pa_cons pe_int pa_nil))) (pe_and (pe_callB call_isi (by rfl) T.isinstance (by decide +kernel) (pa_cons (pe_ix ix_row (pv 0) pe_int (fun _ _ => rfl)) (pa_cons (pe_bltn (v := .ty "str") (by rfl) T.str (by decide +kernel) rfl) pa_nil))) (pe_and (pe_cmpR op_eq (pe_ix ix_row (pv 0) pe_int (fun _ _ => rfl)) pe_str (nomark _)) (pe_one (pe_callB call_isi (by rfl) T.isinstance (by decide +kernel) (pa_cons (pe_ix ix_row (pv 0) pe_int (fun _ _ => rfl)) (pa_cons (pe_bltn (v := .ty "str") (by rfl) T.str (by decide +kernel) rfl) pa_nil)))))))), ?_⟩
    cases ht with
    | fin r =>
      refine ⟨_, rfl, v, _, 2, rfl, r, fun H1 s1 => ?_⟩
      have r1 := r.up s1
      exact ⟨_, rfl, iteY rfl ⟨_, rfl, _, 0, _, r1, rfl, atI_nat (j := 0) rfl, _, _, .type "str", .type "str", true, rfl, .ty "str", .base (.str _), kit_ty (by decide +kernel), _, rfl, iteT ⟨_, rfl, _, 0, _, r1, rfl, atI_nat (j := 0) rfl, rfl, _, rfl, iteY rfl ⟨_, rfl, _, 1, _, r1, rfl, atI_nat (j := 1) rfl, _, _, .type "str", .type "str", true, rfl, .ty "str", .base (.str _), kit_ty (by decide +kernel), k _ s1⟩⟩⟩⟩
    | ask r rk rc c t =>
      exact ⟨_, rfl, v, _, 2, rfl, r, fun H1 s1 => ⟨_, rfl, iteN (by show ¬ ((4 : Nat) : Int) = 2; decide) (k H1 s1)⟩⟩
theorem scLoA : FnScope ["thing"] ["thing"] (defScope sLoA) := ⟨rfl, rfl, rfl, by decide +kernel, rfl, by decide +kernel, by decide +kernel⟩
theorem ok_loa {f fR fL : Addr} {fd fdR fdL : FuncData} (F : Fun K "look_of_ask" "look_of_ask" sLoA f fd) (T : TB mg) (aRow : At K mg "is_row" fR fdR ["thing", "size"]) (GRow : FnOk P w K mg base CX0 1 fR fdR ["thing", "size"] spRow)
    (aAsLook : At K mg "as_look" fL fdL ["thing"]) (GAsLook : FnOk P w K mg base CX0 5 fL fdL ["thing"] spAsLook) : FnOk P w K mg base CX0 6 f fd ["thing"] spLoA := by
  refine F.ok scLoA (fun vs H Q E h => ?_) (fun cdv A outer s H vs Q E hr h => ?_)
  · obtain ⟨v, k, cs, o, rfl, _⟩ := h
    rfl
  · obtain ⟨v, kk, cs, o, rfl, ht, hk, k⟩ := h
    have hu := hr.units
    refine ⟨_, pss_cons (ps_if (PW.pt (pw_or (pt_not (pt_val (pe_call GRow (hr.mono (by decide)) rfl aRow.m aRow.k aRow.b .nil pass0 (pa_cons (pv 0) (pa_cons pe_int pa_nil))))) (pw_or (pt_not (pt_val (pe_callB call_isi (by rfl) T.isinstance (by decide +kernel) (pa_cons (pe_ix ix_row (pv 0) pe_int (fun _ _ => rfl)) (pa_cons (pe_bltn (v := .ty "str") (by rfl) T.str (by decide +kernel) rfl) pa_nil))))) (pw_or1 (pt_cmpR op_ne (pe_ix ix_row (pv 0) pe_int (fun _ _ => rfl)) pe_str (nomark _)))))) (pss_one (ps_ret pe_non)) (pss_nil))
            (pss_one (ps_ret (pe_ifExp (pt_val (pe_callB isi_LT (by rfl) T.isinstance (by decide +kernel) (pa_cons (pe_ix ix_row (pv 0) pe_int (fun _ _ => rfl)) (pa_cons (pe_tup (pa_cons (pe_bltn (v := .ty "list") (by rfl) T.list (by decide +kernel) rfl) (pa_cons (pe_bltn (v := .ty "tuple") (by rfl) T.tuple (by decide +kernel) rfl) pa_nil))) pa_nil)))) (pe_call GAsLook (hr.mono (by decide)) rfl aAsLook.m aAsLook.k aAsLook.b .nil pass0 (pa_cons (pe_ix ix_row (pv 0) pe_int (fun _ _ => rfl)) pa_nil)) pe_non))), ?_⟩
    cases ht with
    | ask r rk rc c t =>
    refine ⟨_, rfl, v, _, 4, rfl, r, fun H1 s1 => ⟨_, rfl, iteF ?_⟩⟩
    have r1 := r.up s1
    refine ⟨_, rfl, _, 0, _, r1, rfl, atI_nat (j := 0) rfl, _, _, .type "str", .type "str", true, rfl, .ty "str", .base (.str _), kit_ty (by decide +kernel), _, rfl, iteF ⟨_, rfl, _, 0, _, r1, rfl, atI_nat (j := 0) rfl, rfl, _, rfl, iteF ?_⟩⟩
    refine ⟨_, rfl, _, 2, _, r1, rfl, atI_nat (j := 2) rfl, by show 2 ≤ sizeLine; decide, fun tp ht => ⟨_, tp, true, rfl, upd_same, .inl ⟨rfl, _, (rc.up s1).up (same_mk ht)⟩, _, rfl, iteT ?_⟩⟩
    have s2 := s1.trans (same_mk (o := .tup [.ty "list", .ty "tuple"]) ht)
    exact ⟨_, rfl, _, 1, _, r.up s2, rfl, atI_nat (j := 1) rfl, _, kk, rfl, rk.up s2, hk, fun p H3 s3 hp => k p H3 (s2.trans s3) hp⟩
end
end T5

set_option maxHeartbeats 3900000
namespace T5
open PySem PySem.Spec PyProof.Rows L2 TL
open C8 (pss_cut tCut pe_gc)
open CB XW LE LR
def LksT (H : Hp) (vs : List V) (ks : List Lk) : Prop := vs.length = ks.length ∧ ∀ (i : Nat) (v : V) (k : Lk), vs[i]? = some v → ks[i]? = some k → ∃ p, v = .ref p ∧ H p = some (.tup (lkV k))
theorem LksT.up {H H' : Hp} {vs : List V} {ks : List Lk} (h : LksT H vs ks) (s : Same H H') : LksT H' vs ks := ⟨h.1, fun i v k a b => by
  obtain ⟨p, e, q⟩ := h.2 i v k a b
  exact ⟨p, e, s _ _ q⟩⟩
theorem LksT.snoc {H : Hp} {vs : List V} {ks : List Lk} {p : Addr} {k : Lk} (h : LksT H vs ks) (hp : H p = some (.tup (lkV k))) : LksT H (vs ++ [.ref p]) (ks ++ [k]) := by
  refine ⟨by rw [List.length_append, List.length_append, h.1]; rfl, fun i v j a b => ?_⟩
  by_cases e : i < vs.length
  · rw [List.getElem?_append_left e] at a
    rw [List.getElem?_append_left (h.1 ▸ e)] at b
    exact h.2 i v j a b
  · have e2 := h.1
    rw [List.getElem?_append_right (by omega)] at a
    rw [List.getElem?_append_right (by omega)] at b
    have lt := (List.getElem?_eq_some_iff.mp a).1
    rw [List.length_singleton] at lt
    rw [show i - vs.length = 0 by omega] at a
    rw [show i - ks.length = 0 by omega] at b
    cases a
    cases b
    exact ⟨p, rfl, hp⟩
theorem lksT_dp {K : PySem.W.Frag} {H : Hp} : ∀ {vs : List V} {ks : List Lk}, LksT H vs ks → DpAll K H vs (ks.map lkD)
  | [], [], _ => .nil
  | [], _ :: _, h => by cases h.1
  | _ :: _, [], h => by cases h.1
  | v :: vs, k :: ks, h => by
    obtain ⟨p, e, q⟩ := h.2 0 v k rfl rfl
    refine .cons (by rw [e]; exact lk_dp q) (lksT_dp ⟨Nat.succ.inj h.1, fun i v k a b => h.2 (i + 1) v k a b⟩)
theorem ks_shapedT {l : List Lk} (h : ∀ k ∈ l, LkW k) : SeqAt.shaped (.tuple (l.map lkD)) = true := by
  have lay : ∀ {l : List Lk}, (∀ k ∈ l, LkW k) → PyData.canLayAll0 (l.map lkD) = true := by
    intro l
    induction l with
    | nil => intro _; simp [PyData.canLayAll0]
    | cons k r ih =>
      intro h
      have h1 := siD_lay (s := (k, .no)) ⟨h k List.mem_cons_self, trivial⟩
      have h2 := ih fun x hx => h x (List.mem_cons_of_mem k hx)
      simp only [siD, PyData.canLay0, PyData.canLayAll0, Bool.and_eq_true] at h1
      simp [PyData.canLayAll0, h1.1, h2]
  have dep : ∀ l : List Lk, PyData.depthAll (l.map lkD) ≤ 3 := by
    intro l
    induction l with
    | nil => simp [PyData.depthAll]
    | cons k r ih =>
      have h1 := siD_dep (k, .no)
      simp only [siD, PyData.depth, PyData.depthAll] at h1
      simp only [List.map_cons, PyData.depthAll]
      omega
  refine shaped_mk (by simp only [PyData.canLay0]; exact lay h) ?_
  have := dep l
  simp only [PyData.depth]
  omega
theorem catA_all {K : PySem.W.Frag} {H : Hp} {a b : Addr} {xs ys : List V} {Q : VK} (ha : H a = some (.tup xs)) (hb : H b = some (.tup ys)) (hl : xs.length + ys.length ≤ sizeLine) (k : ∀ p H', Same H H' → H' p = some (.tup (xs ++ ys)) → Q (.ref p) H') : rCatA K (.ref a) (.ref b) H Q := by
  refine ⟨a, b, xs, ys, rfl, rfl, SqT.of ha, SqT.of hb, hl, fun e => ?_, fun _ e => ?_, fun _ _ p hp => k p _ (same_mk hp) upd_same⟩
  · exact k b H (Same.refl H) (by rw [e, List.nil_append]; exact hb)
  · exact k a H (Same.refl H) (by rw [e, List.append_nil]; exact ha)
theorem anK_inj {a b : An} (ha : AnW a) (hb : AnW b) (e : anK a = anK b) : a = b := by
  cases a <;> cases b <;> simp only [anK] at e <;> first | rfl | (cases e; done) | skip
  · injection e with e
    rw [e]
  · injection e with e
    rename_i l m
    have key : ∀ l m : List (Str × Bool), (l.map fun e => NestedKey.text (ent e.1 e.2)) = (m.map fun e => NestedKey.text (ent e.1 e.2)) → (l.map fun e => ent e.1 e.2) = (m.map fun e => ent e.1 e.2) := by
      intro l
      induction l with
      | nil => intro m h; cases m with
        | nil => rfl
        | cons y r => cases h
      | cons x r ih => intro m h; cases m with
        | nil => cases h
        | cons y t =>
          rw [List.map_cons, List.map_cons] at h ⊢
          injection h with h1 h2
          injection h1 with h1
          rw [h1, ih t h2]
    rw [ents_inj ha.1 hb.1 (key l m e)]
theorem keys_fresh {cs : Cs} {kk : Lk} (nd : (cs.map (·.1)).Nodup) (w : ∀ c ∈ cs, AnW c.1) {i : Nat} {a : An} {t : Tr} (hi : cs[i]? = some (a, t)) {α : Type} (v : α) : DA.kat ((cs.take i).map fun c => (anK c.1, v)) (anK a) = none := by
  refine DA.kat_none fun x hx e => ?_
  obtain ⟨c, hc, rfl⟩ := List.mem_map.mp hx
  have wa : AnW a := w (a, t) (List.mem_of_getElem? hi)
  have ea := anK_inj (w c (List.mem_of_mem_take hc)) wa e
  obtain ⟨j, hj⟩ := List.getElem?_of_mem hc
  have jl : j < i := by
    have := (List.getElem?_eq_some_iff.mp hj).1
    rw [List.length_take] at this
    omega
  rw [List.getElem?_take_of_lt jl] at hj
  have h1 : (cs.map (·.1))[j]? = some a := by rw [List.getElem?_map, hj, ← ea]; rfl
  have h2 : (cs.map (·.1))[i]? = some a := by rw [List.getElem?_map, hi]; rfl
  have := (List.getElem?_inj (List.getElem?_eq_some_iff.mp h1).1 nd).mp (h1.trans h2.symm)
  omega
theorem kput_new {α : Type} {xs : List (DA.NK × α)} {k : DA.NK} {f : α → α} {v : α} (h : DA.kat xs k = none) : DA.kput xs k f v = xs ++ [(k, v)] := by
  unfold DA.kput
  rw [if_neg]
  intro m
  obtain ⟨x, hx, e⟩ := List.mem_map.mp m
  unfold DA.kat at h
  rw [Option.map_eq_none_iff, List.find?_eq_none] at h
  exact h x hx (decide_eq_true e)
def spPT (n : Nat) : Sp := fun vs H Q _ => ∃ v pa aa t pl abv ab, vs = [v, .ref pa, .ref aa] ∧ TrIn H v t ∧ dep t < n ∧ H pa = some (.tup pl) ∧ pl.length + dep t ≤ 50 ∧ H aa = some (.tup abv) ∧ LksT H abv ab ∧ ab.length + dep t ≤ 50 ∧ OkT ab t ∧ (∀ k ∈ ab, LkW k) ∧
  ∀ r H', Same H H' → TrAt H' r t → Q r H'
section
variable {P : Program} {w : World} {K : PySem.W.Frag} {mg : Str → Option Value} {base : Heap}
theorem scPT : FnScope ["thing", "place", "above", "look", "known", "cases", "answers", "number", "case", "sight", "other"] ["thing", "place", "above"] (defScope sPT) := ⟨rfl, rfl, rfl, by decide +kernel, rfl, by decide +kernel, by decide +kernel⟩
theorem ok_pt {f fE fL fS fR : Addr} {fd fdE fdL fdS fdR : FuncData} (F : Fun K "plain_tree" "plain_tree" sPT f fd) (T : TB mg) (aPT : At K mg "plain_tree" f fd ["thing", "place", "above"]) (aIsE : At K mg "is_end" fE fdE ["thing"]) (GIsE : FnOk P w K mg base CX0 2 fE fdE ["thing"] spIE)
    (aLoA : At K mg "look_of_ask" fL fdL ["thing"]) (GLoA : FnOk P w K mg base CX0 6 fL fdL ["thing"] spLoA) (aAsSight : At K mg "as_sight" fS fdS ["thing"]) (GAsSight : FnOk P w K mg base CX0 6 fS fdS ["thing"] spAsSight)
    (aRow : At K mg "is_row" fR fdR ["thing", "size"]) (GRow : FnOk P w K mg base CX0 1 fR fdR ["thing", "size"] spRow) : ∀ n, FnOk P w K mg base CX0 (7 + n) f fd ["thing", "place", "above"] (spPT n) := by
  intro n
  induction n with
  | zero =>
    refine ⟨fun vs H Q E h => ?_, fun A outer s H args us vs Q E hr he hb hv h => ?_⟩
    · obtain ⟨v, pa, aa, t, pl, abv, ab, rfl, _⟩ := h
      rfl
    · obtain ⟨v, pa, aa, t, pl, abv, ab, _, _, hd, _⟩ := h
      exact absurd hd (Nat.not_lt_zero _)
  | succ n GPT =>
    refine F.ok scPT (fun vs H Q E h => ?_) (fun cdv A outer s H vs Q E hr h => ?_)
    · obtain ⟨v, pa, aa, t, pl, abv, ab, rfl, _⟩ := h
      rfl
    · obtain ⟨v, pa, aa, t, pl, abv, ab, rfl, ht, hd, hpa, hpl, haa, hab, hal, ok, aw, k⟩ := h
      have hu0 := hr.un
      have hu5 : (A.deeper (envOfC "plain_tree" (defScope sPT) s.heap.objs.size f cdv)).units + 65 < cLine := by omega
      have hu9 : (A.deeper (envOfC "plain_tree" (defScope sPT) s.heap.objs.size f cdv)).units + 9 < cLine := by omega
      have hrN : ∀ m, m ≤ 7 + n → Room m (A.deeper (envOfC "plain_tree" (defScope sPT) s.heap.objs.size f cdv)) := fun m h => hr.mono h
      refine ⟨_, pss_cons (ps_if (pt_val (pe_call GIsE (hrN _ (by omega)) rfl aIsE.m aIsE.k aIsE.b .nil pass0 (pa_cons (pv 0) pa_nil))) (pss_one (ps_ret (pe_tup (pa_cons pe_str (pa_cons (pe_ix ix_row (pv 0) pe_int (fun _ _ => rfl)) pa_nil))))) (pss_nil))
              (pss_cons (ps_set (i := 3) scPT.nd rfl (Or.inl rfl) (pe_call GLoA (hrN _ (by omega)) rfl aLoA.m aLoA.k aLoA.b .nil pass0 (pa_cons (pv 0) pa_nil)))
              (pss_cons (ps_if (PW.pt (pw_or (pt_cmp (pc_isN (pv 3))) (pw_or1 (pt_cmpR (EE.op_inT hu5) (pv 3) (pv 2) (by rfl))))) (pss_one (ps_never)) (pss_nil))
              (pss_cons (ps_set (i := 4) scPT.nd rfl (Or.inl rfl) (pe_op op_catA (pv 2) (pe_tup (pa_cons (pv 3) pa_nil))))
              (pss_cons (ps_set (i := 5) scPT.nd rfl (Or.inl rfl) (pe_lst pa_nil))
              (pss_cons (ps_set (i := 6) scPT.nd rfl (Or.inl rfl) (DA.pe_anewW (w := w) rfl))
              (pss_cons (ps_for PassesOwn.never rfl (EE.pi_enumE rfl T.enumerate (pe_ix ix_row (pv 0) pe_int (fun _ _ => rfl))) (pg_tup rfl (pgs_cons (pg_name (i := 7) scPT.nd rfl (Or.inl rfl)) (pgs_cons (pg_name (i := 8) scPT.nd rfl (Or.inl rfl)) pgs_nil))) (pss_cons (ps_set (i := 9) scPT.nd rfl (Or.inl rfl) (pe_ifExp (pt_val (pe_call GRow (hrN _ (by omega)) rfl aRow.m aRow.k aRow.b .nil pass0 (pa_cons (pv 8) (pa_cons pe_int pa_nil)))) (pe_call GAsSight (hrN _ (by omega)) rfl aAsSight.m aAsSight.k aAsSight.b .nil pass0 (pa_cons (pe_tup (pa_cons (pv 3) (pa_cons (pe_ix ix_row (pv 8) pe_int (fun _ _ => rfl)) pa_nil))) pa_nil)) pe_non))
              (pss_cons (ps_if (PW.pt (pw_or (pt_cmp (pc_isN (pv 9))) (pw_or1 (pt_cmp (DA.pc_ainW (w := w) rfl hu9 (pe_ix ix_tup (pv 9) pe_int (fun _ _ => rfl)) (pv 6)))))) (pss_one (ps_never)) (pss_nil))
              (pss_cons (DA.ps_aputW (w := w) rfl hu9 (pv 6) (pe_ix ix_tup (pv 9) pe_int (fun _ _ => rfl)) pe_bl rfl)
              (pss_one (ps_expr (pe_bm PySem.F.plainAttrs_list PySem.F.slot_list_append PySem.F.type_list_append mt_append (pv 5) (pa_cons (pe_tup (pa_cons (pe_ix ix_tup (pv 9) pe_int (fun _ _ => rfl)) (pa_cons (pe_call GPT (hrN _ (by omega)) rfl aPT.m aPT.k aPT.b .nil pass0 (pa_cons (pe_ix ix_row (pv 8) pe_int (fun _ _ => rfl)) (pa_cons (pe_op op_catA (pv 1) (pe_tup (pa_cons (pv 7) pa_nil))) (pa_cons (pv 4) pa_nil)))) pa_nil))) pa_nil))))))))
              (pss_cons (ps_set (i := 10) scPT.nd rfl (Or.inl rfl) (pe_call GPT (hrN _ (by omega)) rfl aPT.m aPT.k aPT.b .nil pass0 (pa_cons (pe_ix ix_row (pv 0) pe_int (fun _ _ => rfl)) (pa_cons (pe_op op_catA (pv 1) (pe_tup (pa_cons (pe_callB call_len_seq (by rfl) T.len PySem.boot_len (pa_cons (pv 5) pa_nil)) pa_nil))) (pa_cons (pv 4) pa_nil)))))
              (pss_one (ps_ret (pe_tup (pa_cons pe_str (pa_cons (pv 3) (pa_cons (pe_callTy call_tuple_of (by rfl) T.tuple (by decide +kernel) (pa_cons (pv 5) pa_nil)) (pa_cons (pv 10) pa_nil)))))))))))))), ?_⟩
      cases ht with
      | fin r =>
        refine ⟨_, rfl, v, _, rfl, .fin r, fun H1 s1 => ⟨_, rfl, iteT ?_⟩⟩
        refine ⟨_, rfl, _, 1, _, r.up s1, rfl, atI_nat (j := 1) rfl, by show 2 ≤ sizeLine; decide, fun p hp => ?_⟩
        exact k _ _ (s1.trans (same_mk hp)) (.fin upd_same)
      | @ask _ kv cv ov xs kk cs o r rk rc cc to =>
        obtain ⟨lok, nin, nd, cl, okc, oko⟩ := ok
        have dc : depC cs < n ∧ dep o < n := by
          have : max (depC cs) (dep o) + 1 < n + 1 := hd
          omega
        refine ⟨_, rfl, v, _, rfl, .ask r rk rc cc to, fun H1 s1 => ⟨_, rfl, iteF ?_⟩⟩
        refine ⟨_, rfl, v, kk, cs, o, rfl, .ask (r.up s1) (rk.up s1) (rc.up s1) (CsIn.up s1 cc) (TrIn.up s1 to), lok, fun lk H2 s2 hlk => ?_⟩
        have hpa2 := (s1.trans s2) _ _ hpa
        have haa2 := (s1.trans s2) _ _ haa
        have ab2 := hab.up (s1.trans s2)
        refine ⟨_, rfl, _, rfl, iteF ⟨_, rfl, _, rfl, lkD kk, ab.map lkD, lk_dp hlk, .tup (SqT.of haa2) (lksT_dp ab2), lkD_shaped (LkOk.w lok), ks_shapedT aw, ?_⟩⟩
        rw [any_lk (LkOk.w lok) aw, decide_eq_false nin]
        refine ⟨_, rfl, iteF ?_⟩
        refine ⟨_, rfl, _, rfl, by show 1 ≤ sizeLine; decide, fun t1 ht1 => ?_⟩
        have s3 := same_mk (o := .tup [.ref lk]) ht1
        have z2 : abv.length + 1 ≤ sizeLine := Nat.le_trans (show abv.length + 1 ≤ 51 by have := ab2.1; omega) (by decide)
        refine catA_all (s3 _ _ haa2) upd_same z2 fun kn H4 s4 hkn => ?_
        have s24 := s3.trans s4
        have s14 := (s1.trans s2).trans s24
        have abk : LksT H4 (abv ++ [.ref lk]) (ab ++ [kk]) := (ab2.up s24).snoc (s24 _ _ hlk)
        have hpa4 := s24 _ _ hpa2
        have hlk4 := s24 _ _ hlk
        have hr4 := r.up s14
        have hc4 := rc.up s14
        have cc4 := CsIn.up s14 cc
        have to4 := TrIn.up s14 to
        refine ⟨by show 0 ≤ sizeLine; decide, fun D hD => ?_⟩
        have s5 := same_mk (o := .lst []) hD
        refine fun d hd2 ha0 => ?_
        have s6 : Same H4 (upd (upd H4 D (.lst [])) d (DA.DO w d [])) := s5.trans (same_mk hd2)
        have dD : d ≠ D := fun z => by rw [z, upd_same] at hd2; cases hd2
        have hD6 : (upd (upd H4 D (.lst [])) d (DA.DO w d [])) D = some (.lst []) := by rw [upd_ne dD.symm, upd_same]
        have fD : H4 D = none := hD
        have fd0 : H4 d = none := s5.free hd2
        generalize upd (upd H4 D (.lst [])) d (DA.DO w d []) = H6 at s6 hD6 ha0 ⊢
        refine ⟨_, rfl, _, 2, _, hr4.up s6, rfl, atI_nat (j := 2) rfl, EE.for_enumE (hc4.up s6) (fun i σ H' => ∃ x7 x8 x9 x10 ys, σ = [some v, some (.ref pa), some (.ref aa), some (.ref lk), some (.ref kn), some (.ref D), some (.ref d), x7, x8, x9, x10] ∧ Same H4 H' ∧ H' D = some (.lst ys) ∧ CsAt H' ys (cs.take i) ∧ DA.HAt w H' d ((cs.take i).map fun c => (anK c.1, .bl true)))
          ⟨none, none, none, none, [], rfl, s6, hD6, .nil, ha0⟩ (fun i τ H' ⟨x7, x8, x9, x10, ys, _, s7, _⟩ a o e ho => ?_) ?_ ?_⟩
        · subst e
          obtain ⟨p, e, q⟩ := hc4
          cases e
          rcases q with q | q
          · have := s6 _ _ q
            rw [ho] at this
            cases this
            exact s7 _ _ q
          · have := s6 _ _ q
            rw [ho] at this
            cases this
            exact s7 _ _ q
        · rintro i x Tt _ H7 hi ⟨x7, x8, x9, x10, ys, rfl, s7, hD7, cy, hat⟩ hx hT
          obtain ⟨cl2, cat⟩ := csIn_at cc4
          obtain ⟨a, t, av, tv, hci, hrow, han, htr⟩ := cat i x hx
          have ic : i < cs.length := cl2 ▸ hi
          obtain ⟨sok, tok⟩ := okC_mem okc (a, t) (List.mem_of_getElem? hci)
          have sT := same_mk (o := .tup [.int (i : Nat), x]) hT
          refine ⟨Tt, _, rfl, SqT.of upd_same, rfl, _, _, rfl, _, _, rfl, rfl, ?_⟩
          have s8 := s7.trans sT
          have hD8 := sT _ _ hD7
          have cy8 := CsAt.up sT cy
          have hat8 := hat.same sT
          generalize upd H7 Tt (.tup [.int (i : Nat), x]) = H8 at s8 hD8 cy8 hat8 ⊢
          refine ⟨_, rfl, x, _, 2, rfl, hrow.up s8, fun H9 s9 => ⟨_, rfl, iteY rfl ?_⟩⟩
          have s49 := s8.trans s9
          refine ⟨_, rfl, _, rfl, _, 0, _, hrow.up s49, rfl, atI_nat (j := 0) rfl, by show 2 ≤ sizeLine; decide, fun tt htt => ?_⟩
          have sA := same_mk (o := .tup [.ref lk, av]) htt
          refine ⟨.ref tt, (kk, a), rfl, ⟨.ref lk, av, ⟨tt, rfl, .inl upd_same⟩, ⟨lk, rfl, .inl ((s49.trans sA) _ _ hlk4)⟩, han.up (s49.trans sA)⟩, sok.1, fun sv HB sB hsv => ?_⟩
          obtain ⟨t2, u2, va2, rfl, h2, hu2, ha2⟩ := hsv
          have s4B := (s49.trans sA).trans sB
          have s8B := (s9.trans sA).trans sB
          have hD9 := s8B _ _ hD8
          have hatB := hat8.same s8B
          have cyB := CsAt.up s8B cy8
          have kno : DA.kat ((cs.take i).map fun c => (anK c.1, V.bl true)) (anK a) = none := keys_fresh (kk := kk) nd (fun c hc => (okC_mem okc c hc).1.2.2) hci _
          refine ⟨_, rfl, _, rfl, iteF ⟨_, rfl, t2, _, 1, _, rfl, rfl, SqT.of h2, atI_nat (j := 1) rfl, _, rfl, d, _, anK a, rfl, hatB, an_key ha2, _, rfl, ?_⟩⟩
          rw [kno]
          refine iteF ?_
          have l1 : ((cs.take i).map fun c => (anK c.1, V.bl true)).length < sizeLine := by
            rw [List.length_map, List.length_take]
            exact Nat.lt_of_lt_of_le (show min i cs.length < 1000 by omega) (by decide)
          refine ⟨_, rfl, _, rfl, t2, _, 1, _, rfl, rfl, SqT.of h2, atI_nat (j := 1) rfl, d, _, anK a, rfl, hatB, an_key ha2, l1, fun rs hat2 => ?_⟩
          rw [show DA.aput _ (anK a) (V.bl true) = _ from kput_new kno] at hat2
          obtain ⟨rs0, hd0, _, _⟩ := id hatB
          have tupC : TupS HB (upd HB d (DA.DO w d rs)) := fun b xs e => by
            rw [upd_ne (ne_of e hd0 fun z => DA.do_ne xs z.symm)]
            exact e
          have s4C : Same H4 (upd HB d (DA.DO w d rs)) := fun b o e => by
            rw [upd_ne fun z => by rw [z, fd0] at e; cases e]
            exact s4B _ _ e
          have hDC : upd HB d (DA.DO w d rs) D = some (.lst ys) := by rw [upd_ne dD.symm]; exact hD9
          have cyC := CsAt.tup tupC cyB
          have h2C := tupC _ _ h2
          have ha2C := AnAt.tup ha2 tupC
          generalize upd HB d (DA.DO w d rs) = HC at s4C hDC cyC h2C ha2C hat2 ⊢
          refine ⟨_, rfl, .inl ⟨rfl, _, SqL.of hDC⟩, _, rfl, t2, _, 1, _, rfl, rfl, SqT.of h2C, atI_nat (j := 1) rfl, ?_⟩
          refine ⟨_, rfl, _, 1, _, hrow.up s4C, rfl, atI_nat (j := 1) rfl, _, rfl, _, rfl, by show 1 ≤ sizeLine; decide, fun tn htn => ?_⟩
          have sD := same_mk (o := .tup [.int (i : Nat)]) htn
          have pl1 : pl.length + 1 ≤ sizeLine := Nat.le_trans (show pl.length + 1 ≤ 51 by omega) (by decide)
          refine catA_all ((s4C.trans sD) _ _ hpa4) upd_same pl1 fun pp HD sD2 hpp => ?_
          have sCD := sD.trans sD2
          have s4D := s4C.trans sCD
          have dt : dep t < n ∧ pl.length + 1 + dep t ≤ 50 ∧ ab.length + 1 + dep t ≤ 50 := by
            have h1 := depC_mem (a, t) (List.mem_of_getElem? hci)
            have h2 : dep (Tr.ask kk cs o) = max (depC cs) (dep o) + 1 := by simp [dep]
            have h3 : dep t ≤ depC cs := h1
            rw [h2] at hpl hal
            omega
          refine ⟨_, rfl, tv, pp, kn, t, _, _, _, rfl, htr.up s4D, dt.1, hpp, by rw [List.length_append]; exact dt.2.1, s4D _ _ hkn, abk.up s4D, by rw [List.length_append]; exact dt.2.2, tok, fun j hj => ?_, fun rv HE sE hrv => ?_⟩
          · rcases List.mem_append.mp hj with z | z
            · exact aw j z
            · rw [List.mem_singleton.mp z]
              exact LkOk.w lok
          · have sCE := sCD.trans sE
            refine ⟨by show 2 ≤ sizeLine; decide, fun p hp => ?_⟩
            have sF := same_mk (o := .tup [va2, rv]) hp
            have sCF := sCE.trans sF
            have hDF := sCF _ _ hDC
            have yl : ys.length ≤ 1000 := by
              rw [(csAt_at cyC).1, List.length_take]
              omega
            refine ⟨D, ys, .ref p, rfl, rfl, hDF, Nat.lt_of_le_of_lt yl (by decide), ?_⟩
            have gp := upd_same (H := HE) (a := p) (o := .tup [va2, rv])
            have arv := TrAt.up sF hrv
            have cyF := CsAt.up sCF cyC
            have haF := AnAt.up ha2C sCF
            have hatF := hat2.same sCF
            have s4F := s4C.trans sCF
            generalize upd HE p (.tup [va2, rv]) = HF at hDF gp arv cyF haF hatF s4F ⊢
            have tupD : TupS HF (upd HF D (.lst (ys ++ [.ref p]))) := tupS_put hDF (by intro xs z; cases z)
            have etk : cs.take (i + 1) = cs.take i ++ [(a, t)] := by rw [List.take_succ, hci]; rfl
            refine ⟨_, _, _, _, ys ++ [.ref p], rfl, fun b o e => ?_, upd_same, ?_, ?_⟩
            · rw [upd_ne fun z => by rw [z, fD] at e; cases e]
              exact s4F _ _ e
            · rw [etk]
              exact csAt_snoc (tupD _ _ gp) (AnAt.tup haF tupD) (TrAt.tup tupD arv) (CsAt.tup tupD cyF)
            · rw [etk, List.map_append]
              exact hatF.keep (fun rs e => by rw [upd_ne dD]; exact e) fun b xs e => tupD b xs e
        · rintro _ H7 ⟨x7, x8, x9, x10, ys, rfl, s7, hD7, cy, hat⟩
          have el : (CsIn H4 xs cs) := cc4
          rw [(csIn_at cc4).1, List.take_length] at cy
          have yl := (csAt_at cy).1
          refine ⟨_, rfl, _, 3, _, hr4.up s7, rfl, atI_nat (j := 3) rfl, _, rfl, _, rfl, D, ys, rfl, .inl (SqL.of hD7), by show 1 ≤ sizeLine; decide, fun tn htn => ?_⟩
          have sD := same_mk (o := .tup [.int (ys.length : Int)]) htn
          have pl1 : pl.length + 1 ≤ sizeLine := Nat.le_trans (show pl.length + 1 ≤ 51 by omega) (by decide)
          refine catA_all ((s7.trans sD) _ _ hpa4) upd_same pl1 fun pp H8 s8 hpp => ?_
          have s78 := sD.trans s8
          have s48 := s7.trans s78
          have dt : pl.length + 1 + dep o ≤ 50 ∧ ab.length + 1 + dep o ≤ 50 := by
            have h2 : dep (Tr.ask kk cs o) = max (depC cs) (dep o) + 1 := by simp [dep]
            rw [h2] at hpl hal
            omega
          refine ⟨_, rfl, ov, pp, kn, o, _, _, _, rfl, to4.up s48, dc.2, hpp, by rw [List.length_append]; exact dt.1, s48 _ _ hkn, abk.up s48, by rw [List.length_append]; exact dt.2, oko, fun j hj => ?_, fun rv H9 s9 hrv => ?_⟩
          · rcases List.mem_append.mp hj with z | z
            · exact aw j z
            · rw [List.mem_singleton.mp z]
              exact LkOk.w lok
          · have s79 := s78.trans s9
            refine ⟨_, rfl, _, rfl, D, ys, rfl, .inl ⟨SqL.of (s79 _ _ hD7), fun cp hcp => ⟨_, rfl, by show 4 ≤ sizeLine; decide, fun q hq => ?_⟩⟩⟩
            have sE := same_mk (o := .tup ys) hcp
            have sF := same_mk (o := .tup [.str "ask", .ref lk, .ref cp, rv]) hq
            have sEF := sE.trans sF
            refine k _ _ ((s14.trans s7).trans (s79.trans sEF)) (.ask upd_same ((s7.trans (s79.trans sEF)) _ _ hlk4) (sF _ _ upd_same) (CsAt.up (s79.trans sEF) cy) (TrAt.up sEF hrv))
end
end T5

set_option maxHeartbeats 3900000
namespace T5
open PySem PySem.Spec PyProof.Rows L2 TL
open C8 (pss_cut tCut pe_gc)
open CB XW LE LR
def DKeep (w : World) (N : Addr → Prop) (H H' : Hp) : Prop := ∀ b rs, N b → H b = some (DA.DO w b rs) → H' b = some (DA.DO w b rs)
mutual
/-- a tree with a dict for the cases of each ask; N holds of each dict -/
inductive UAt (w : World) (N : Addr → Prop) (H : Hp) : V → Tr → Prop
  | fin {p : Addr} {z : Str} (r : H p = some (.tup [.str "end", .str z])) : UAt w N H (.ref p) (.fin z)
  | ask {p kp d : Addr} {ov : V} {kvs : List (DA.NK × V)} {k : Lk} {cs : Cs} {o : Tr} (r : H p = some (.tup [.str "ask", .ref kp, .ref d, ov])) (rk : H kp = some (.tup (lkV k))) (hn : N d) (hd : DA.HAt w H d kvs) (c : CsU w N H kvs cs) (t : UAt w N H ov o) : UAt w N H (.ref p) (.ask k cs o)
inductive CsU (w : World) (N : Addr → Prop) (H : Hp) : List (DA.NK × V) → Cs → Prop
  | nil : CsU w N H [] []
  | cons {v : V} {kvs : List (DA.NK × V)} {a : An} {t : Tr} {cs : Cs} (h : UAt w N H v t) (c : CsU w N H kvs cs) : CsU w N H ((anK a, v) :: kvs) ((a, t) :: cs)
end
mutual
theorem UAt.go {w : World} {N M : Addr → Prop} {H H' : Hp} (s : TupS H H') (e : DKeep w N H H') (nm : ∀ b, N b → M b) : ∀ {v : V} {t : Tr}, UAt w N H v t → UAt w M H' v t
  | _, _, .fin r => .fin (s _ _ r)
  | _, _, .ask r rk hn hd c t => .ask (s _ _ r) (s _ _ rk) (nm _ hn) (hd.keep (fun rs q => e _ rs hn q) fun b xs q => s b xs q) (CsU.go s e nm c) (UAt.go s e nm t)
theorem CsU.go {w : World} {N M : Addr → Prop} {H H' : Hp} (s : TupS H H') (e : DKeep w N H H') (nm : ∀ b, N b → M b) : ∀ {v : List (DA.NK × V)} {t : Cs}, CsU w N H v t → CsU w M H' v t
  | _, _, .nil => .nil
  | _, _, .cons h c => .cons (UAt.go s e nm h) (CsU.go s e nm c)
end
theorem dkeep_same {w : World} {N : Addr → Prop} {H H' : Hp} (s : Same H H') : DKeep w N H H' := fun b _ _ h => s b _ h
theorem UAt.up {w : World} {N : Addr → Prop} {H H' : Hp} (s : Same H H') {v : V} {t : Tr} (h : UAt w N H v t) : UAt w N H' v t := h.go (TupS.of s) (dkeep_same s) fun _ x => x
theorem CsU.up {w : World} {N : Addr → Prop} {H H' : Hp} (s : Same H H') {v : List (DA.NK × V)} {t : Cs} (h : CsU w N H v t) : CsU w N H' v t := h.go (TupS.of s) (dkeep_same s) fun _ x => x
theorem dkeep_but {w : World} {N : Addr → Prop} {H H' : Hp} {st l : Addr} {c : Nat} (S : Strm H st l c) (B : But st l H H') : DKeep w N H H' := fun b rs _ h => by
  obtain ⟨ns, u, m, ⟨g1, g2⟩, _⟩ := id S.ex
  exact B _ _ h (ne_of h g1 (DA.do_neL _)) (ne_of h g2 (DA.do_neL _))
theorem csU_snoc {w : World} {N : Addr → Prop} {H : Hp} {v : V} {a : An} {t : Tr} (h : UAt w N H v t) : ∀ {kvs : List (DA.NK × V)} {cs : Cs}, CsU w N H kvs cs → CsU w N H (kvs ++ [(anK a, v)]) (cs ++ [(a, t)])
  | _, _, .nil => .cons h .nil
  | _, _, .cons h1 c => .cons h1 (csU_snoc h c)
theorem csU_keys {w : World} {N : Addr → Prop} {H : Hp} : ∀ {kvs : List (DA.NK × V)} {cs : Cs}, CsU w N H kvs cs → kvs.map (·.1) = cs.map fun c => anK c.1
  | _, _, .nil => rfl
  | _, _, .cons h c => by
    rw [List.map_cons, List.map_cons, csU_keys c]
theorem csU_fresh {w : World} {N : Addr → Prop} {H : Hp} {cs : Cs} {kk : Lk} (nd : (cs.map (·.1)).Nodup) (wd : ∀ c ∈ cs, AnW c.1) {i : Nat} {a : An} {t : Tr} (hi : cs[i]? = some (a, t)) {kvs : List (DA.NK × V)} (c : CsU w N H kvs (cs.take i)) : DA.kat kvs (anK a) = none := by
  refine DA.kat_none fun x hx e => ?_
  have m : x.1 ∈ kvs.map (·.1) := List.mem_map.mpr ⟨x, hx, rfl⟩
  rw [csU_keys c] at m
  obtain ⟨c, hc, e2⟩ := List.mem_map.mp m
  have wa : AnW a := wd (a, t) (List.mem_of_getElem? hi)
  have ea := anK_inj (wd c (List.mem_of_mem_take hc)) wa (e2.trans e)
  obtain ⟨j, hj⟩ := List.getElem?_of_mem hc
  have jl : j < i := by
    have := (List.getElem?_eq_some_iff.mp hj).1
    rw [List.length_take] at this
    omega
  rw [List.getElem?_take_of_lt jl] at hj
  have h1 : (cs.map (·.1))[j]? = some a := by rw [List.getElem?_map, hj, ← ea]; rfl
  have h2 : (cs.map (·.1))[i]? = some a := by rw [List.getElem?_map, hi]; rfl
  have := (List.getElem?_inj (List.getElem?_eq_some_iff.mp h1).1 nd).mp (h1.trans h2.symm)
  omega
theorem csU_len {w : World} {N : Addr → Prop} {H : Hp} : ∀ {kvs : List (DA.NK × V)} {cs : Cs}, CsU w N H kvs cs → kvs.length = cs.length
  | _, _, .nil => rfl
  | _, _, .cons h c => by
    rw [List.length_cons, List.length_cons, csU_len c]
def stepT (a : An) : Cs → Tr → Tr
  | [], o => o
  | (b, t) :: r, o => if b = a then t else stepT a r o
def spUn (w : World) (n : Nat) : Sp := fun vs H Q _ => ∃ v t ab, vs = [v] ∧ TrAt H v t ∧ dep t < n ∧ OkT ab t ∧ ∀ r H', Same H H' → UAt w (fun b => H b = none) H' r t → Q r H'
section
variable {P : Program} {w : World} {K : PySem.W.Frag} {mg : Str → Option Value} {base : Heap}
theorem scUn : FnScope ["tree", "look", "cases", "other", "parts", "answer", "part"] ["tree"] (defScope sUn) := ⟨rfl, rfl, rfl, by decide +kernel, rfl, by decide +kernel, by decide +kernel⟩
theorem ok_un {f : Addr} {fd : FuncData} (F : Fun K "unordered" "unordered" sUn f fd) (T : TB mg) (aUn : At K mg "unordered" f fd ["tree"]) : ∀ n, FnOk P w K mg base CX0 n f fd ["tree"] (spUn w n) := by
  intro n
  induction n with
  | zero =>
    refine ⟨fun vs H Q E h => ?_, fun A outer s H args us vs Q E hr he hb hv h => ?_⟩
    · obtain ⟨v, t, ab, rfl, _⟩ := h
      rfl
    · obtain ⟨v, t, ab, _, _, hd, _⟩ := h
      exact absurd hd (Nat.not_lt_zero _)
  | succ n GUn =>
    refine F.ok scUn (fun vs H Q E h => ?_) (fun cdv A outer s H vs Q E hr h => ?_)
    · obtain ⟨v, t, ab, rfl, _⟩ := h
      rfl
    · obtain ⟨v, t, ab, rfl, ht, hd, ok, k⟩ := h
      have hu := hr.un
      have hu9 : (A.deeper (envOfC "unordered" (defScope sUn) s.heap.objs.size f cdv)).units + 9 < cLine := by omega
      have hrN : ∀ m, m ≤ n → Room m (A.deeper (envOfC "unordered" (defScope sUn) s.heap.objs.size f cdv)) := fun m h => hr.mono h
      refine ⟨_, pss_cons (ps_if (pt_cmpR op_eq (pe_ix ix_tup (pv 0) pe_int (fun _ _ => rfl)) pe_str (nomark _)) (pss_one (ps_ret (pv 0))) (pss_nil))
              (pss_cons (ps_asg (pe_slice sl_tup (pv 0) (po_some pe_int) po_none) (pg_tup rfl (pgs_cons (pg_name (i := 1) scUn.nd rfl (Or.inl rfl)) (pgs_cons (pg_name (i := 2) scUn.nd rfl (Or.inl rfl)) (pgs_cons (pg_name (i := 3) scUn.nd rfl (Or.inl rfl)) pgs_nil)))))
              (pss_cons (ps_set (i := 4) scUn.nd rfl (Or.inl rfl) (DA.pe_anewW (w := w) rfl))
              (pss_cons (ps_for PassesOwn.never rfl (pi_tup (pv 2)) (pg_tup rfl (pgs_cons (pg_name (i := 5) scUn.nd rfl (Or.inl rfl)) (pgs_cons (pg_name (i := 6) scUn.nd rfl (Or.inl rfl)) pgs_nil))) (pss_one (DA.ps_aputW (w := w) rfl hu9 (pv 4) (pv 5) (pe_call GUn (hrN _ (by omega)) rfl aUn.m aUn.k aUn.b .nil pass0 (pa_cons (pv 6) pa_nil)) rfl)))
              (pss_one (ps_ret (pe_tup (pa_cons pe_str (pa_cons (pv 1) (pa_cons (pv 4) (pa_cons (pe_call GUn (hrN _ (by omega)) rfl aUn.m aUn.k aUn.b .nil pass0 (pa_cons (pv 3) pa_nil)) pa_nil)))))))))), ?_⟩
      cases ht with
      | @fin p z r =>
        exact ⟨_, rfl, p, _, 0, _, rfl, rfl, SqT.of r, atI_nat (j := 0) rfl, rfl, _, rfl, iteT ⟨_, rfl, k _ H (Same.refl H) (.fin r)⟩⟩
      | @ask p kp cp ov xs kk cs o r rk rc cc to =>
        obtain ⟨lok, nin, nd, cl, okc, oko⟩ := ok
        have dc : depC cs < n ∧ dep o < n := by
          have : max (depC cs) (dep o) + 1 < n + 1 := hd
          omega
        refine ⟨_, rfl, p, _, 0, _, rfl, rfl, SqT.of r, atI_nat (j := 0) rfl, rfl, _, rfl, iteF ?_⟩
        refine ⟨_, rfl, 1, rfl, p, _, rfl, SqT.of r, fun z => absurd z.1 (by decide : ¬ HT.sIx 4 0 (some 1) = 0), fun q hq => ?_⟩
        have s1 := same_mk (o := .tup [.ref kp, .ref cp, ov]) hq
        show gTup _ 3 _ _ _ (upd H q (.tup [.ref kp, .ref cp, ov])) _
        refine ⟨q, _, rfl, SqT.of (xs := [.ref kp, .ref cp, ov]) upd_same, rfl, ?_⟩
        refine ⟨_, _, rfl, _, _, rfl, _, _, rfl, rfl, fun d hd2 ha0 => ?_⟩
        have hd3 : H d = none := s1.free hd2
        have s2 := s1.trans (same_mk (o := DA.DO w d []) hd2)
        generalize upd (upd H q (.tup [.ref kp, .ref cp, ov])) d (DA.DO w d []) = H2 at s2 ha0 ⊢
        obtain ⟨cl2, cat⟩ := csAt_at cc
        refine ⟨_, rfl, cp, rfl, ⟨_, SqT.of (s2 _ _ rc)⟩, for_tup (xs := xs) (fun i σ H' => ∃ x5 x6 kvs, σ = [some (.ref p), some (.ref kp), some (.ref cp), some ov, some (.ref d), x5, x6] ∧ Same H H' ∧ DA.HAt w H' d kvs ∧ CsU w (fun b => b ≠ d ∧ H b = none) H' kvs (cs.take i))
          ⟨none, none, [], rfl, s2, ha0, .nil⟩ (fun i σ H' _ ⟨_, _, _, _, s3, _⟩ => SqT.of (s3 _ _ rc)) ?_ ?_⟩
        · rintro i x σ H3 hx ⟨x5, x6, kvs, rfl, s3, hat, cu⟩
          obtain ⟨a, t, tp, av, tv, hci, rfl, htp, han, htr⟩ := cat i x hx
          refine ⟨tp, _, rfl, SqT.of (s3 _ _ htp), rfl, _, _, rfl, _, _, rfl, rfl, ?_⟩
          obtain ⟨sok, tok⟩ := okC_mem okc (a, t) (List.mem_of_getElem? hci)
          have h3 : dep t ≤ depC cs := depC_mem (a, t) (List.mem_of_getElem? hci)
          refine ⟨_, rfl, tv, t, _, rfl, htr.up s3, by omega, tok, fun rv H4 s4 hrv => ?_⟩
          have hat4 := hat.same s4
          have cu4 := CsU.up s4 cu
          have kno := csU_fresh (kk := kk) nd (fun c hc => (okC_mem okc c hc).1.2.2) hci cu4
          have l1 : kvs.length < sizeLine := by
            rw [csU_len cu, List.length_take]
            exact Nat.lt_of_lt_of_le (show min i cs.length < 1000 by omega) (by decide)
          refine ⟨_, rfl, _, rfl, d, kvs, anK a, rfl, hat4, an_key (AnAt.up han (s3.trans s4)), l1, fun rs hat5 => ?_⟩
          rw [show DA.aput kvs (anK a) rv = _ from kput_new kno] at hat5
          obtain ⟨rs0, hdo, _, _⟩ := id hat4
          have s35 : Same H (upd H4 d (DA.DO w d rs)) := fun b o e => by
            rw [upd_ne fun z => by rw [z, hd3] at e; cases e]
            exact (s3.trans s4) _ _ e
          have tup5 : TupS H4 (upd H4 d (DA.DO w d rs)) := fun b xs e => by
            rw [upd_ne (ne_of e hdo fun z => DA.do_ne xs z.symm)]
            exact e
          have dk {N : Addr → Prop} (hN : ∀ b, N b → b ≠ d) : DKeep w N H4 (upd H4 d (DA.DO w d rs)) := fun b rs nb e => by
            rw [upd_ne (hN b nb)]
            exact e
          refine ⟨_, _, kvs ++ [(anK a, rv)], rfl, s35, hat5, ?_⟩
          rw [show cs.take (i + 1) = cs.take i ++ [(a, t)] by rw [List.take_succ, hci]; rfl]
          have nd3 : ∀ b, H3 b = none → b ≠ d ∧ H b = none := fun b hb => by
            refine ⟨fun z => ?_, s3.free hb⟩
            obtain ⟨_, g, _⟩ := id hat
            rw [z, g] at hb
            cases hb
          exact csU_snoc (UAt.go tup5 (dk fun b hb => (nd3 b hb).1) nd3 hrv) (CsU.go tup5 (dk fun b hb => hb.1) (fun _ x => x) cu4)
        · rintro _ H3 ⟨x5, x6, kvs, rfl, s3, hat, cu⟩
          rw [cl2, List.take_length] at cu
          refine ⟨_, rfl, _, rfl, _, rfl, ov, o, _, rfl, to.up s3, dc.2, oko, fun rv H4 s4 hrv => ⟨by show 4 ≤ sizeLine; decide, fun u hu => ?_⟩⟩
          have s5 := s4.trans (same_mk (o := .tup [.str "ask", .ref kp, .ref d, rv]) hu)
          have su := same_mk (o := .tup [.str "ask", .ref kp, .ref d, rv]) hu
          have s35 := s3.trans s5
          refine k _ _ s35 (.ask upd_same (s35 _ _ rk) hd3 (hat.same s5) (CsU.go (TupS.of s5) (dkeep_same s5) (fun b hb => hb.2) cu) (UAt.go (TupS.of su) (dkeep_same su) (fun b hb => s3.free hb) hrv))
end
end T5

set_option maxHeartbeats 3900000
namespace SX
open PySem PySem.Spec PyProof.Rows L2 PpSet
def textOf : Value → Str
  | .str x _ => x
  | _ => ""
abbrev txs (es : Array (Int × Value)) : List Str := es.toList.map fun e => textOf e.2
structure Tab (w : World) (es : Array (Int × Value)) (t : SetTable) (S : Str → Bool) (n : Nat) : Prop where
  good : ∀ e ∈ es.toList, ∃ x k, e = (keyH w (.inr x), Value.str x k)
  nd : (txs es).Nodup
  mem : ∀ x, S x = true ↔ x ∈ txs es
  small : es.size < scanBound
  fits : t.fits es.size = true
  size : es.size = n
  ris : Ris t.place.toList
  led : w.params.followText "set-order" = true ∨ t.led = true
def SetT (w : World) (h : Heap) (a : Addr) (S : Str → Bool) (n : Nat) : Prop := ∃ o es ep t, h.get? a = some o ∧ o.ExactSet ∧ o.data = .set es ep t ∧ Tab w es t S n
theorem SetT.at {w : World} {h h' : Heap} {a : Addr} {S : Str → Bool} {n : Nat} (R : SetT w h a S n) (k : ∀ o, h.get? a = some o → h'.get? a = some o) : SetT w h' a S n := by
  obtain ⟨o, es, ep, t, ho, r⟩ := R
  exact ⟨o, es, ep, t, k o ho, r⟩
section
variable {P : Program} {w : World} {es : Array (Int × Value)} {t : SetTable} {S : Str → Bool} {n : Nat}
theorem Tab.elems (T : Tab w es t S n) : ElemsOf (mixKind P w) es.toList := fun e he => by
  obtain ⟨x, k, rfl⟩ := T.good e he
  exact ⟨⟨.inr x, kV_is (k := .inr x) (u := Value.str x k) ⟨k, rfl⟩, rfl⟩, rfl⟩
theorem Tab.moved (T : Tab w es t S n) {es2 : Array (Int × Value)} {t2 : SetTable} (pm : es2.toList.Perm es.toList) (f : t2.fits es2.size = true) (r : Ris t2.place.toList) (l : t2.led = t.led) : Tab w es2 t2 S n := by
  have hs : es2.size = es.size := by rw [← Array.length_toList, pm.length_eq, Array.length_toList]
  exact ⟨fun e he => T.good e (pm.mem_iff.mp he), (pm.map _).nodup_iff.mpr T.nd, fun x => (T.mem x).trans (pm.map _).mem_iff.symm, by rw [hs]; exact T.small, f, by rw [hs]; exact T.size, r, T.led.imp id fun z => by rw [l]; exact z⟩
theorem Tab.again (T : Tab w es t S n) {x : Str} (hx : S x = true) : Tab w es t (fun j => S j || decide (j = x)) n :=
  ⟨T.good, T.nd, fun j => by
    rw [Bool.or_eq_true, decide_eq_true_eq, ← T.mem j]
    exact ⟨fun z => z.elim id fun e => e ▸ hx, .inl⟩, T.small, T.fits, T.size, T.ris, T.led⟩
theorem Tab.more (T : Tab w es t S n) {x : Str} {k : Tok} (hx : S x = false) (room : n + 1 < scanBound) {es2 : Array (Int × Value)} {t2 : SetTable} (pm : es2.toList.Perm (es.push (keyH w (.inr x), .str x k)).toList) (f : t2.fits es2.size = true) (r : Ris t2.place.toList) (l : t2.led = t.led) :
    Tab w es2 t2 (fun j => S j || decide (j = x)) (n + 1) := by
  rw [Array.toList_push] at pm
  have pc := pm.trans (List.perm_append_singleton _ _)
  have pk : (txs es2).Perm (x :: txs es) := pc.map fun e => textOf e.2
  have nx : x ∉ txs es := fun z => by
    rw [(T.mem x).mpr z] at hx
    cases hx
  have hs : es2.size = n + 1 := by rw [← Array.length_toList, pc.length_eq, List.length_cons, Array.length_toList, T.size]
  refine ⟨fun e he => ?_, pk.nodup_iff.mpr (List.nodup_cons.mpr ⟨nx, T.nd⟩), fun j => ?_, by rw [hs]; exact room, f, hs, r, T.led.imp id fun z => by rw [l]; exact z⟩
  · rcases List.mem_cons.mp (pc.mem_iff.mp he) with z | z
    · exact ⟨x, k, z⟩
    · exact T.good e z
  · rw [Bool.or_eq_true, decide_eq_true_eq, T.mem j, pk.mem_iff, List.mem_cons]
    exact Or.comm
theorem Tab.hit (T : Tab w es t S n) {e : Int × Value} (he : e ∈ es.toList) {x : Str} (h : (mixKind P w).is (.inr x) e.2 = true) : S x = true := by
  obtain ⟨y, k, rfl⟩ := T.good e he
  rcases keyIs_shape (show keyIs (.inr x) (Value.str y k) = true from h) with ⟨i, t, e1, e2⟩ | ⟨z, t, e1, e2⟩
  · cases e1
  · cases e1
    cases e2
    exact (T.mem x).mpr (List.mem_map.mpr ⟨_, he, rfl⟩)
theorem Tab.miss (T : Tab w es t S n) {x : Str} (h : List.findIdx? (fun e => (mixKind P w).is (.inr x) e.2) es.toList = none) : S x = false := by
  cases q : S x with
  | false => rfl
  | true =>
    obtain ⟨e, he, ex⟩ := List.mem_map.mp ((T.mem x).mp q)
    obtain ⟨y, k, rfl⟩ := T.good e he
    have c := List.findIdx?_eq_none_iff.mp h _ he
    have c2 : (mixKind P w).is (.inr y) (Value.str y k) = true := kV_is (k := .inr y) (u := Value.str y k) ⟨k, rfl⟩
    rw [show y = x from ex] at c c2
    rw [c2] at c
    cases c
end
section
variable {P : Program} {w : World} {A : Around} {E : Value → Shared → Prop} {s : Shared} {a : Addr} {S : Str → Bool} {n : Nat}
theorem put_at {h : Heap} {o : Obj} {es es' : Array (Int × Value)} {ep : Nat} {t t' : SetTable} (ho : h.get? a = some o) (hd : o.data = .set es ep t) : (h.update a (Obj.putSet es' t')).get? a = some { o with data := .set es' (ep + 1) t' } := storeB_at ho hd
theorem tail {g : Bool → Sem Unit} (hg : ∀ (b : Bool) (s₁ : Shared) (Q' : Unit → Shared → Prop), Q' () s₁ → wpAny (model P w) A (g b) Q' E s₁) {o : Obj} {es : Array (Int × Value)} {ep : Nat} {t : SetTable} (ho : s.heap.get? a = some o) (hex : o.ExactSet) (hd : o.data = .set es ep t)
    {es1 : Array (Int × Value)} {t2 : SetTable} (T : Tab w es1 t2 S n) {wd : Bool} {R : Option Bool → Shared → Prop} (hR : ∀ h', Heap.SameBut a s.heap h' → SetT w h' a S n → R (some true) { s with heap := h' }) :
    wpAny (model P w) A (do
      storeSet a es1 t2
      if (!wd && t2.tooFull) = true then
        (do g (relayAll t2 es1
              (SetTable.grown es1.size)).2.2
            storeSet a (relayAll t2 es1
              (SetTable.grown es1.size)).1 (relayAll t2 es1
              (SetTable.grown es1.size)).2.1
            pure (some true))
      else pure (some true)) R E s := by
  refine wpAny_bind (wpAny_storeSet_of ho hd ?_ (fits_of_scanBound T.small))
  have ho1 := put_at (es' := es1) (t' := t2) ho hd
  have sb1 := Heap.SameBut.update s.heap a (Obj.putSet es1 t2)
  split
  · have T3 := T.moved (relayAll_perm t2 es1 (SetTable.grown es1.size)) (relayAll_fits ..) (relayAll_ris ..) (relayAll_led ..)
    refine wpAny_bind (hg _ _ _ (wpAny_bind (wpAny_storeSet_of ho1 rfl ?_ (fits_of_scanBound T3.small))))
    exact wpAny_pure (hR _ (sb1.trans (Heap.SameBut.update _ a _)) ⟨_, _, _, _, put_at ho1 rfl, hex, rfl, T3⟩)
  · exact wpAny_pure (hR _ sb1 ⟨_, _, _, _, ho1, hex, rfl, T⟩)
theorem add_hashed {x : Str} {k : Tok} {Q : Bool → Shared → Prop} (R : SetT w s.heap a S n) (room : n + 1 < scanBound)
    (hQ : ∀ h', Heap.SameBut a s.heap h' → SetT w h' a (fun j => S j || decide (j = x)) (if S x = true then n else n + 1) → Q (!S x) { s with heap := h' }) : wpAny (model P w) A (setAddHashed a (.str x k) ((mixKind P w).hash (.inr x))) Q E s := by
  obtain ⟨o, es, ep, t, ho, hex, hd, T⟩ := R
  have hkey : (mixKind P w).is (.inr x) (Value.str x k) = true := kV_is (k := .inr x) (u := Value.str x k) ⟨k, rfl⟩
  have hsc : (Value.str x k).scannable = true := rfl
  have hel : ElemsOf (mixKind P w) es.toList := T.elems
  unfold setAddHashed setAddHashedIn
  refine wpAny_holding (wpAny_bind (wpAny_setState_of ho hd T.fits ?_))
  dsimp only
  rw [byScan_of hsc T.small hel]
  simp only [↓reduceIte]
  unfold setAddByScan
  refine wpAny_bind (wpAny_bind (wpAny_rule (wpAny_bind (wpAny_setScan_of hkey ho hd T.fits hel ?_))))
  cases hfi : List.findIdx? (fun e => (mixKind P w).is (.inr x) e.2) es.toList with
  | some j =>
    obtain ⟨hj, pj, _⟩ := List.findIdx?_eq_some_iff_getElem.mp hfi
    have hS := T.hit (List.getElem_mem hj) pj
    have q := hQ s.heap (Heap.SameBut.refl a s.heap) ⟨o, es, ep, t, ho, hex, hd, by rw [if_pos hS]; exact T.again hS⟩
    rw [hS] at q
    exact wpAny_pure (wpAny_pure q)
  | none =>
    have hS := T.miss hfi
    dsimp only
    have gw : ∀ (b : Bool) {s₁ : Shared} {Q' : Unit → Shared → Prop}, Q' () s₁ → wpAny (model P w) A (match b with | true => rule "set.scan.the-table-gave-way" | false => pure ()) Q' E s₁ := fun b s₁ Q' q => by
      cases b
      · exact wpAny_pure q
      · exact wpAny_rule q
    have pm := layNew_perm t es ((mixKind P w).hash (.inr x)) (.str x k)
    have f1 := layNew_fits t es ((mixKind P w).hash (.inr x)) (.str x k)
    have r1 := layNew_ris t es ((mixKind P w).hash (.inr x)) (.str x k) T.ris
    have l1 := layNew_led t es ((mixKind P w).hash (.inr x)) (.str x k)
    generalize layNew t es ((mixKind P w).hash (.inr x)) (.str x k) = Z at pm f1 r1 l1 ⊢
    obtain ⟨es1, t1, wd, gave⟩ := Z
    dsimp only at pm f1 r1 l1 ⊢
    have T1 := T.more hS room pm f1 r1 l1
    have fin : ∀ h', Heap.SameBut a s.heap h' → SetT w h' a (fun j => S j || decide (j = x)) (n + 1) → Q true { s with heap := h' } := fun h' sb r => by
      have q := hQ h' sb
      rw [hS] at q
      exact q r
    refine wpAny_bind (gw _ ?_)
    have gg : ∀ (b : Bool) (s₁ : Shared) (Q' : Unit → Shared → Prop), Q' () s₁ → wpAny (model P w) A (match b with | true => rule "set.scan.the-table-gave-way" | false => pure ()) Q' E s₁ := fun b s₁ Q' q => gw b q
    split
    · refine wpAny_bind ?_
      rw [hashByValue_scannable 8 hsc]
      refine wpAny_pure ?_
      refine tail gg ho hex hd (S := fun j => S j || decide (j = x)) (n := n + 1) ?_ fun h' sb r => wpAny_pure (fin h' sb r)
      split
      · exact T1
      · exact T1.moved (List.Perm.refl _) (SetTable.fits_plain_off f1) r1 rfl
    · refine wpAny_bind (wpAny_pure ?_)
      simp only [↓reduceIte]
      exact tail gg ho hex hd (S := fun j => S j || decide (j = x)) (n := n + 1) T1 fun h' sb r => wpAny_pure (fin h' sb r)
theorem add {x : Str} {k : Tok} {Q : Value → Shared → Prop} (R : SetT w s.heap a S n) (room : n + 1 < scanBound)
    (hQ : ∀ h', Heap.SameBut a s.heap h' → SetT w h' a (fun j => S j || decide (j = x)) (if S x = true then n else n + 1) → Q .none { s with heap := h', toks := s.toks + 1 }) :
    wpAny (model P w) A (call (.builtin "set.add") [.ref a, .str x k]) Q E s := by
  have hT : s.TypeIs (.ref a) "set" := by
    obtain ⟨o, es, ep, t, ho, hex, _⟩ := R
    exact ⟨o, ho, hex.1⟩
  refine wpAny_call_entry F.slot_set_add hT F.entry_set_add ?_ (F.args_set_add_2 _ _)
  unfold Builtin.«set.add» Builtin.Frozenset.oneOther
  simp only [List.isEmpty_nil, bind_assoc]
  unfold Builtin.Frozenset.addrOf setAdd
  refine wpAny_bind (wpAny_pure ?_)
  try dsimp only
  refine wpAny_bind (wpAny_pure ?_)
  try dsimp only
  refine wpAny_bind (wpAny_holding (wpAny_bind ((mixKind P w).pyHash (kV_is (k := .inr x) (u := Value.str x k) ⟨k, rfl⟩) ?_)))
  refine add_hashed (s := { s with toks := s.toks + 1 }) R room fun h' sb r => ?_
  show wpAny _ _ (ret Value.none) _ _ _
  exact wpAny_pure ⟨_, rfl, hQ h' sb r⟩
theorem fresh {h : Heap} (w : World) : SetT w (h.push { cls := .type "set", dict := none, data := .set #[] 0 (.fresh 0 0 (!w.params.followText "set-order")) }) h.objs.size (fun _ => false) 0 := by
  refine ⟨_, #[], 0, _, Heap.get?_push_size _ rfl, ⟨rfl, rfl, rfl⟩, rfl, (fun e he => by simp at he), by simp [txs], (fun k => by simp [txs]), by decide, by rfl, rfl, List.Pairwise.nil, ?_⟩
  show _ ∨ (!w.params.followText "set-order") = true
  cases w.params.followText "set-order"
  · exact .inr rfl
  · exact .inl rfl
end
def SetTO (w : World) (a : Addr) (S : Str → Bool) (n : Nat) : HO := .ext fun h => SetT w h a S n
section
variable {X : Cx} {pins : List (Addr × Obj)} {σ : L2.St} {H : Hp} {s : Shared} {a : Addr} {S : Str → Bool} {n : Nat}
theorem get (I : Inv X pins σ H s) (ha : H a = some (SetTO X.w a S n)) : SetT X.w s.heap a S n := (I.hok a _ ha).1
end
section
variable {X : Cx}
end
end SX

set_option maxHeartbeats 3900000
namespace SX
open PySem PySem.Spec PyProof.Rows L2 PpSet
section
variable {X : Cx} {elt tg iter : Expr} {ifs : List Expr} {scope : Scope} {own : List (PySem.Str × Nat)} {pos : Pos} {wi : TI} {g : TG} {tt : TT} {te : TE}
end
end SX

set_option maxHeartbeats 3900000
namespace T5
open PySem PySem.Spec PyProof.Rows L2 TL
open C8 (pss_cut tCut pe_gc)
open CB
section
variable {P : Program} {w : World} {K : PySem.W.Frag} {mg : Str → Option Value} {base : Heap}
end
end T5

set_option maxHeartbeats 3900000
namespace T5
open PySem PySem.Spec PyProof.Rows L2 TL
open C8 (pss_cut tCut pe_gc)
open CB
section
variable {α : Type} {J : It} {n : Nat} {G : Hp → Prop} {Y : Nat → Hp → V → Hp → Prop} {tt : TT} {te : TE} {σ : L2.St} {H1 : Hp} {D : Addr} {Qd : Hp → Prop} {j : Nat}
theorem lcFM (w : Walk J n G Y) (zs : List α) (u g : α → V) (f : α → Bool) (hn : zs.length = n) (hs : n < 1000000) (hY : ∀ i H x H', Y i H x H' → H' = H ∧ (zs.map u)[i]? = some x) (hD : H1 D = none) (hG : ∀ H', Same H1 H' → G H')
    (test : ∀ z ∈ zs, ∀ (H2 : Hp), Same H1 H2 → ∀ Q1 : Bool → Hp → Prop, (∀ H3, Same H2 H3 → Q1 (f z) H3) → tt ((wipe σ [j]).set j (some (u z))) H2 Q1)
    (elt : ∀ z ∈ zs, f z = true → ∀ (H2 : Hp), Same H1 H2 → ∀ Q1 : VK, (∀ H3, Same H2 H3 → Q1 (g z) H3) → te ((wipe σ [j]).set j (some (u z))) H2 Q1)
    (hd : ∀ H', Same H1 H' → H' D = some (.lst ((zs.filter f).map g)) → Qd H') :
    ∃ W : Nat → Nat → Hp → Prop, (∃ m, W 0 m (upd H1 D (.lst []))) ∧ ∀ i m H, W i m H →
      (J.stop i H ∧ Qd H) ∨ (J.go i H ∧ ∃ Nx : Hp → Prop, (∀ H', Nx H' → ∃ m', m' < m ∧ W (i + 1) m' H') ∧ ∀ x H', J.yld i H x H' → gName j x (wipe σ [j]) H' fun σ2 H2 => wipe σ2 [j] = wipe σ [j] ∧ tt σ2 H2 fun b H3 =>
        if b = true then te σ2 H3 fun y H4 => ∃ acc, H4 D = some (.lst acc) ∧ acc.length < sizeLine ∧ Nx (upd H4 D (.lst (acc ++ [y]))) else Nx H3) := by
  subst hn
  refine lc_it w (fun i H' => Same H1 H' ∧ H' D = some (.lst (((zs.take i).filter f).map g))) ⟨same_mk hD, upd_same⟩ (fun i H' _ q => hG H' q.1) ?_ ?_
  · rintro i x H2 H3 hi ⟨s2, hd2⟩ y
    obtain ⟨rfl, hx⟩ := hY i H2 x H3 y
    rw [List.getElem?_map, List.getElem?_eq_getElem hi] at hx
    cases hx
    have hm : zs[i] ∈ zs := List.getElem_mem hi
    have tk : zs.take (i + 1) = zs.take i ++ [zs[i]] := by
      rw [List.take_succ, List.getElem?_eq_getElem hi]
      rfl
    refine ⟨wipe1 _, test zs[i] hm _ s2 _ fun H4 s4 => ?_⟩
    cases hf : f zs[i] with
    | true =>
      refine iteT (elt _ hm hf _ (s2.trans s4) _ fun H5 s5 => ⟨_, s5 _ _ (s4 _ _ hd2), ?_, same_ch ((s2.trans s4).trans s5) hD, ?_⟩)
      · rw [List.length_map]
        have h1 := List.length_filter_le f (zs.take i)
        rw [List.length_take] at h1
        exact Nat.lt_of_lt_of_le (show _ < 1000000 by omega) (by decide)
      · rw [upd_same, tk, List.filter_append, List.filter_cons_of_pos hf, List.filter_nil, List.map_append]
        rfl
    | false =>
      refine iteF ⟨s2.trans s4, ?_⟩
      rw [tk, List.filter_append, List.filter_cons_of_neg (by rw [hf]; decide), List.filter_nil, List.append_nil]
      exact s4 _ _ hd2
  · rintro H' ⟨s, h⟩
    rw [List.take_length] at h
    exact hd H' s h
end
end T5

set_option maxHeartbeats 3900000
namespace T5
open PySem PySem.Spec PyProof.Rows L2 TL
open C8 (pss_cut tCut pe_gc)
open CB
section
variable {P : Program} {w : World} {K : PySem.W.Frag} {mg : Str → Option Value} {base : Heap}
end
end T5

set_option maxHeartbeats 3900000
namespace T5
open PySem PySem.Spec PyProof.Rows L2 TL
open C8 (pss_cut tCut pe_gc)
open CB
def WoAt (C : Addr) (H : Hp) (o : Addr) (fs : Fs) (ss : Ss) (z : Str) : Prop := ∃ dx d e, H o = some (.ins C dx [(("contents" : Str), .ref d), ("chosen", .ref e), ("tool", .str z)]) ∧ H d = some (.dK (fsK fs)) ∧ H e = some (.dK (ssK ss))
theorem WoAt.same {C : Addr} {H H' : Hp} {o : Addr} {fs : Fs} {ss : Ss} {z : Str} (h : WoAt C H o fs ss z) (s : Same H H') : WoAt C H' o fs ss z := by
  obtain ⟨dx, d, e, h1, h2, h3⟩ := h
  exact ⟨dx, d, e, s _ _ h1, s _ _ h2, s _ _ h3⟩
section
variable {u v t : V}
end
section
variable {P : Program} {w : World} {K : PySem.W.Frag} {mg : Str → Option Value} {base : Heap} {C : Addr}
end
end T5

set_option maxHeartbeats 3900000
namespace EN
open PySem PySem.Spec PyProof.Rows L2
def rEqNil (K : PySem.W.Frag) : R2 := fun x y H Q => ∃ a b xs, x = .ref a ∧ y = .ref b ∧ SqL K H a xs ∧ SqL K H b [] ∧ Q (.bl xs.isEmpty) H
theorem op_eqNil {X : Cx} (hu : X.A.units < cLine) : OpR X (compareOp .Eq) (rEqNil X.K) := by
  intro pins s σ H x y v u Q I rx ry h
  obtain ⟨a, b, xs, rfl, rfl, ha, hb, q⟩ := h
  cases rx
  cases ry
  obtain ⟨its, rv, pl, hz⟩ := I.list ha
  obtain ⟨its2, rv2, pl2, hz2⟩ := I.list hb
  cases rv2
  cases xs with
  | nil =>
    cases rv
    have r := SeqAt.RcAt.lists (A := X.A) (e := fun _ => true) pl.isList pl2.isList rfl hu (fun j h1 h2 => absurd h1 (by simp))
    exact r X.prog X.w X.xe _ ⟨.bl _, H, I, rfl, q⟩
  | cons z zs =>
    cases rv with
    | cons rz rr =>
      have r := SeqAt.RcAt.lists_lengths (A := X.A) pl.isList pl2.isList (by simp) hu
      exact r X.prog X.w X.xe _ ⟨.bl _, H, I, rfl, q⟩
end EN

set_option maxHeartbeats 3900000
namespace T5
open PySem PySem.Spec PyProof.Rows L2 TL
open C8 (pss_cut tCut pe_gc)
open CB
section
variable {K : PySem.W.Frag} {D : Addr} {H1 : Hp} {σ : L2.St} {tt : TT} {te : TE} {Qd : Hp → Prop} {jk jw : Nat}
end
theorem map_tl_inj : ∀ {a b : List Str}, a.map tl = b.map tl → a = b
  | [], [], _ => rfl
  | [], _ :: _, h => by cases h
  | _ :: _, [], h => by cases h
  | x :: a, y :: b, h => by
    rw [List.map_cons, List.map_cons] at h
    obtain ⟨h1, h2⟩ := List.cons.inj h
    rw [ext_tl h1, map_tl_inj h2]
section
variable {P : Program} {w : World} {K : PySem.W.Frag} {mg : Str → Option Value} {base : Heap}
end
end T5

set_option maxHeartbeats 3900000
namespace T5
open PySem PySem.Spec PyProof.Rows L2 TL
open C8 (pss_cut tCut pe_gc)
open CB
section
variable {P : Program} {w : World} {K : PySem.W.Frag} {mg : Str → Option Value} {base : Heap}
end
end T5

set_option maxHeartbeats 3900000
namespace T5
open PySem PySem.Spec PyProof.Rows L2 TL
open C8 (pss_cut tCut pe_gc)
open CB
section
variable {α : Type} {J : It} {n : Nat} {G : Hp → Prop} {Y : Nat → Hp → V → Hp → Prop} {tk tv : TE} {σ : L2.St} {H1 : Hp} {D : Addr} {Qd : Hp → Prop} {j : Nat}
end
section
variable {P : Program} {w : World} {K : PySem.W.Frag} {mg : Str → Option Value} {base : Heap} {C : Addr}
end
end T5

set_option maxHeartbeats 3900000
namespace T5
open PySem PySem.Spec PyProof.Rows L2 TL
open C8 (pss_cut tCut pe_gc)
open CB
section
variable {P : Program} {w : World} {K : PySem.W.Frag} {mg : Str → Option Value} {base : Heap} {C : Addr}
end
end T5

set_option maxHeartbeats 3900000
namespace T5
open PySem PySem.Spec PyProof.Rows L2 TL
open C8 (pss_cut tCut pe_gc)
open CB
section
variable {P : Program} {w : World} {K : PySem.W.Frag} {mg : Str → Option Value} {base : Heap} {C : Addr}
end
end T5

set_option maxHeartbeats 3900000
namespace T5
open PySem PySem.Spec PyProof.Rows L2 TL
open C8 (pss_cut tCut pe_gc)
open CB XW LE LR
section
variable {P : Program} {w : World} {K : PySem.W.Frag} {mg : Str → Option Value} {base : Heap} {C : Addr}
end
end T5

set_option maxHeartbeats 3900000
namespace T5
open PySem PySem.Spec PyProof.Rows L2 TL
open C8 (pss_cut tCut pe_gc)
open CB XW LE LR
abbrev sTIni : Stmt := inClass (top 28) 0
abbrev sTTree : Stmt := inClass (top 28) 1
def tMeth : List Str := ["tree"]
structure TCl (K : PySem.W.Frag) (mg : Str → Option Value) (C : Addr) (mt : Str → Addr) : Prop where
  mg : mg "Step" = some (.ref C)
  cl : Cls K C
  n1 : NoAttr K C "top"
  n2 : NoAttr K C "choices"
  mak : Mk K C (mt "__init__")
  me : ∀ m ∈ tMeth, Meth K C m (mt m)
  ha : PySem.W.findIn K (.ref C) "__class__" = some (some (.builtin "object.__class__"))
  hn : PySem.W.specialIn K (.builtin "object.__class__") "__get__" = some (some (.builtin "getset_descriptor.__get__"))
  ht : PySem.W.takesIn K (.builtin "object.__class__") = some true
  hm : PySem.W.mroIn K C (.type "object") = some true
def StAt (w : World) (C : Addr) (H : Hp) (o : Addr) (t : Tr) : Prop := ∃ dx u v, H o = some (.ins C dx [(("top" : Str), u), ("choices", v)]) ∧ TrAt H u t ∧ UAt w (fun _ => True) H v t
theorem StAt.up {w : World} {C : Addr} {H H' : Hp} {o : Addr} {t : Tr} (h : StAt w C H o t) (s : Same H H') : StAt w C H' o t := by
  obtain ⟨dx, u, v, h1, h2, h3⟩ := h
  exact ⟨dx, u, v, s _ _ h1, h2.up s, h3.up s⟩
theorem lk_t1 (u v : V) : List.lookup ("top" : Str) [(("top" : Str), u), ("choices", v)] = some u := by simp [List.lookup]
theorem lk_t2 (u v : V) : List.lookup ("choices" : Str) [(("top" : Str), u), ("choices", v)] = some v := by
  have h1 : (("choices" : Str) == ("top" : Str)) = false := by decide +kernel
  have h2 : (("choices" : Str) == ("choices" : Str)) = true := by decide +kernel
  simp only [List.lookup, h1, h2]
section
variable {P : Program} {w : World} {K : PySem.W.Frag} {mg : Str → Option Value} {base : Heap} {C CR CW CS CA : Addr} {mt : Str → Addr}
theorem scTIni : FnScope ["self", "tree"] ["self", "tree"] (defScope sTIni) := ⟨rfl, rfl, rfl, by decide +kernel, rfl, by decide +kernel, by decide +kernel⟩
theorem scTTree : FnScope ["self"] ["self"] (defScope sTTree) := ⟨rfl, rfl, rfl, by decide +kernel, rfl, by decide +kernel, by decide +kernel⟩
end
end T5

set_option maxHeartbeats 3900000
namespace OW
open PySem PySem.Spec PyProof.Rows L2 PySem.F
section
variable {X : Cx} {k : Nat} {C f : Addr} {fd : FuncData} {ps : List Str} {sp : Sp} {CX : CXT} {E : XK}
theorem inst_at {pins : List (Addr × Obj)} {σ : L2.St} {H : Hp} {s : Shared} {a dx : Addr} {fs : List (Str × V)} (I : Inv X pins σ H s) (ha : H a = some (.ins C dx fs)) : ∃ ox od, PySem.W.InstAt s.heap a ox C od := by
  obtain ⟨mA, J, _⟩ := ins_get I.hok ha
  obtain ⟨od, J, _⟩ := J.look
  exact ⟨_, _, J⟩
theorem cmp_back {pins : List (Addr × Obj)} {σ : L2.St} {Q : VK} {A : Around} {m : Sem Value} {Es : Value → Shared → Prop} {s : Shared} (h : wpAny (model X.prog X.w) A m (EP X pins σ Q) Es s) : wpAny (model X.prog X.w) A m (PySem.W.CmpBack (EP X pins σ Q)) Es s :=
  wpAny_mono h (fun u s' hq => by
    obtain ⟨v, H', I', rv, q⟩ := hq
    have e : EP X pins σ Q u s' := ⟨v, H', I', rv, q⟩
    cases v with
    | non => cases rv; exact e
    | bl b => cases rv; exact e
    | int i => obtain ⟨t, rfl⟩ := rv; exact e
    | str z => obtain ⟨t, rfl⟩ := rv; exact e
    | byt z => obtain ⟨t, rfl⟩ := rv; exact e
    | flt z => obtain ⟨t, rfl⟩ := rv; exact e
    | ref z => cases rv; exact e
    | ty z => cases rv; exact e) fun _ _ e => e
theorem run_in {A : Around} {pins : List (Addr × Obj)} {σ : L2.St} {H : Hp} {s : Shared} {Q : VK} {us : List Value} {vs : List V} (F : FnOk X.prog X.w X.K X.mg X.base CX k f fd ps sp) (sb : Sub X k A) (hb : Binds X.K fd ps []) (hx : Passes CX X E)
    (I : Inv X pins σ H s) (r : Vals vs us) (h : sp vs H Q E) : wpAny (model X.prog X.w) A (call (.ref f) us) (EP X pins σ Q) X.xe s := by
  have e0 : Env0 X.prog X.w X.K X.mg X.base A X.stack s H := by
    have e := I.env0
    exact ⟨by rw [sb.fr]; exact e.frames, e.mod, e.bs, e.bsz, e.funs, e.frf, e.hok, e.bare⟩
  have hl : us.length = ps.length := by rw [← r.length]; exact F.len _ _ _ _ h
  refine wpAny_call (codeAny_mono (F.run A X.stack s H ⟨us, []⟩ us vs Q E sb.room e0 (by
    have := hb s us I.kIn (by simpa using hl)
    simpa using this) r h) fun r s' hq => ?_)
  cases r with
  | error e => exact hx pins σ H s e s' I hq
  | ok fl =>
    cases fl with
    | ret w =>
      obtain ⟨z, H', I', rz, q⟩ := I.after hq
      exact ⟨z, H', I', rz, q⟩
    | next => exact False.elim hq
    | brk => exact False.elim hq
    | cont => exact False.elim hq
def rEqO (K : PySem.W.Frag) (C : Addr) (sp : Sp) (E : XK) : R2 := fun x y H Q => ∃ a dx fs t, x = .ref a ∧ H a = some (.ins C dx fs) ∧ TyX K H y t ∧ PySem.W.notFirst K C t = true ∧ sp [.ref a, y] H Q E
theorem op_eqO (F : FnOk X.prog X.w X.K X.mg X.base CX k f fd ps sp) (hr : Room k X.A) (hu : X.A.units < cLine) (hb : Binds X.K fd ps []) (hx : Passes CX X E) (M : Meth X.K C "__eq__" f) : OpR X (compareOp .Eq) (rEqO X.K C sp E) := by
  intro pins s σ H x y v u Q I rx ry h
  obtain ⟨a, dx, fs, t, rfl, ha, ht, hn, q⟩ := h
  cases rx
  obtain ⟨ox, od, J⟩ := inst_at I ha
  obtain ⟨m, hF⟩ := I.fr
  show wpAny (model X.prog X.w) X.A (richCompare .Eq (.ref a) u) (EP X pins σ Q) X.xe s
  exact PySem.W.cmp_K (op := .Eq) (tb := t) hu hF I.ok.mod.kin J (by obtain ⟨P, Z, p, _⟩ := kit_of I ry ht; exact Z.ty _ _ I.kIn p) hn M.at_ M.fn (cmp_back (run_fn F hr hb .nil hx I (vs := [.ref a, y]) (.cons rfl (.cons ry .nil)) q))
theorem ne_slot : PySem.Slot "object" "__ne__" "object.__ne__" := .of (T := "object") (name := "__ne__") (owner := "object") (n := "__ne__") (by rw [typeLookup_type, builtinLookup_eq_fast]; kernel_rfl) (by decide +kernel) (by decide +kernel) (by decide +kernel) (.inl (by decide +kernel)) (by rw [isSubtype_type]; kernel_rfl)
theorem ifBound_B {M : Model} {A : Around} {Es : Value → Shared → Prop} {s : Shared} {K : PySem.W.Frag} {x : Addr} {ox : Obj} {od : Option Obj} {name : Str} {id : String} {args : List Value} {R : Option Value → Shared → Prop} (S : PySem.Slot "object" name id) (K0 : K.In s.heap) (J : PySem.W.InstAt s.heap x ox C od)
    (hs : PySem.W.findIn K (.ref C) name = some (some (.builtin id))) (h : wpAny M A (call (.builtin id) (.ref x :: args)) (fun v => R (some v)) Es s) : wpAny M A (callSpecialIfBound? (.ref x) name args) R Es s := by
  simp only [callSpecialIfBound?, bindSpecialIfBound?]
  refine wpAny_holding (wpAny_bind (wpAny_bind (wpAny_bind (J.type.here ((PySem.W.looks_findIn K0 hs).here ?_)))))
  refine wpAny_bind (wpAny_askSetting (wpAny_ite ?_))
  have fin : wpAny M A (call (.builtin id) ([.ref x] ++ args) >>= fun v => pure (some v)) R Es s := wpAny_bind (wpAny_mono h (fun v s' h' => wpAny_pure h') fun _ _ h' => h')
  split
  · rw [S.bind]
    exact wpAny_bind (wpAny_pure (wpAny_pure (by exact fin)))
  · rw [S.bind]
    exact wpAny_tryCatch (wpAny_bind (wpAny_pure (wpAny_pure (by exact fin))))
end
end OW

set_option maxHeartbeats 3900000
namespace OLN
open PySem PySem.SeqAt PySem.Spec PyProof.Rows L2 GQ
open AutoSeq1 (wpAny_loadPart')
open MeetsSeq MeetsSeq2 MeetsSeq3 SeqRoads2
section
variable {pr : Program} {wd : World} {Ar : Around} {Rs : Result → Shared → Prop} {Es : Value → Shared → Prop}
end
end OLN

set_option maxHeartbeats 3900000
namespace OLI
open PySem PySem.SeqAt PySem.Spec PyProof.Rows L2 GQ
open AutoSeq1 (wpAny_loadPart')
open MeetsSeq MeetsSeq2 MeetsSeq3 SeqRoads2
section
variable {pr : Program} {wd : World} {Ar : Around} {Rs : Result → Shared → Prop} {Es : Value → Shared → Prop}
end
section
variable {X : Cx} {n : Nat}
end
end OLI

set_option maxHeartbeats 3900000
namespace DAE
open PySem PySem.Spec PyProof.Rows PySem.Calls L2 DA
section
variable {prog : Program} {w : World} {A : Around} {E : Value → Shared → Prop} {s : Shared}
theorem same_pairs {nm : String} {a b : Addr} {oa ob : Obj} {es fs : Array DictEntry} {ep eq : Nat} {xs ys : List DA.Row} {Q : Bool → Shared → Prop} (ha : (a == sysModules) = false) (hb : (b == sysModules) = false) (hu : A.units + 8 < cLine) (J : Shared → Prop)
    (hJ : ∀ s, J s → At w s.heap a oa es ep xs ∧ At w s.heap b ob fs eq ys ∧ Kys s.heap xs ∧ Kys s.heap ys) (e : Nat → Bool)
    (turn : xs.length = ys.length → ∀ i x, xs[i]? = some x → (kat ys x.1 = none → e i = false) ∧ ∀ r, kat ys x.1 = some r → ∀ s, J s → wpAny (model prog w) A (eqBool x.2.2 r.2) (fun c s' => c = e i ∧ J s') E s)
    (g : J s) (h : ∀ s', J s' → Q (decide (xs.length = ys.length) && (List.range xs.length).all e) s') : wpAny (model prog w) A (Builtin.Dict.samePairs nm a b) Q E s := by
  obtain ⟨Ta, Tb, Ka, Kb⟩ := hJ _ g
  have la := Ta.size
  have lb := Tb.size
  unfold Builtin.Dict.samePairs Builtin.Dict.showsAll
  rw [if_neg (show ¬ (a == sysModules) = true by rw [ha]; exact Bool.false_ne_true), if_neg (show ¬ (b == sysModules) = true by rw [hb]; exact Bool.false_ne_true)]
  refine wpAny_bind (wpAny_pure (wpAny_bind (wpAny_pure ?_)))
  refine wpAny_bind (wpAny_dictEntries Ta.ob Ta.da ?_)
  dsimp only
  refine wpAny_bind (wpAny_dictEntries Tb.ob Tb.da ?_)
  by_cases hsz : es.size = fs.size
  case neg =>
    rw [if_pos (by simpa using hsz)]
    have z := h _ g
    rw [decide_eq_false (by rw [← la, ← lb]; exact hsz), Bool.false_and] at z
    exact wpAny_bind (wpAny_rule (wpAny_pure z))
  case pos =>
    have hl : xs.length = ys.length := by rw [← la, ← lb]; exact hsz
    have h' : ∀ s', J s' → Q ((List.range xs.length).all e) s' := fun s' q => by
      have z := h s' q
      rw [decide_eq_true hl, Bool.true_and] at z
      exact z
    have turn' := turn hl
    rw [if_neg (by rw [hsz]; simp)]
    refine wpAny_bind (wpAny_dictEpoch Ta.ob Ta.da ?_)
    refine wpAny_bind ?_
    rw [Std.Legacy.Range.forIn_eq_forIn_range']
    simp only [Std.Legacy.Range.size, Nat.sub_zero, Nat.add_sub_cancel, Nat.div_one]
    clear Ta Tb Ka Kb h
    refine wpAny_forIn_list _
      (fun rest q s' => J s' ∧ q = (none, ()) ∧ ∃ i, rest = List.range' i (es.size - i) ∧ i ≤ es.size ∧ ∀ j, j < i → e j = true)
      _ ?_ ?_ _ _ ⟨g, rfl, 0, by simp, Nat.zero_le _, fun j hj => absurd hj (Nat.not_lt_zero _)⟩
    · rintro x rest q s' ⟨g, rfl, i, hr, hi, before⟩
      obtain ⟨Ta, Tb, Ka, Kb⟩ := hJ _ g
      have hlt : i < es.size := by
        rcases Nat.lt_or_ge i es.size with h | h
        · exact h
        · rw [Nat.sub_eq_zero_of_le h] at hr; simp at hr
      obtain ⟨rfl, hrest⟩ : x = i ∧ rest = List.range' (i + 1) (es.size - (i + 1)) := by
        have e : es.size - i = (es.size - (i + 1)) + 1 := by omega
        rw [e, List.range'_succ] at hr
        injection hr with h1 h2
        exact ⟨h1, h2⟩
      have hxl : x < xs.length := by rw [← la]; exact hlt
      have hx : xs[x]? = some xs[x] := List.getElem?_eq_getElem hxl
      have kx := Ka _ (List.mem_of_getElem? hx)
      obtain ⟨t1, t2⟩ := turn' x _ hx
      refine wpAny_bind (wpAny_dictEntries Ta.ob Ta.da ?_)
      rw [Ta.row x, hx]
      show wpAny _ _ (holding [xs[x].2.1, xs[x].2.2] _ >>= _) _ _ _
      have bad : e x = false → Q false s' := fun ex => by
        have z := h' s' g
        rw [show (List.range xs.length).all e = false from List.all_eq_false.mpr ⟨x, List.mem_range.mpr hxl, by rw [ex]; exact Bool.false_ne_true⟩] at z
        exact z
      refine wpAny_bind (wpAny_holding (wpAny_bind (find (o := ob) hu kx Tb Kb (fun no => ?_) (fun j y hy ey => ?_))))
      · have hn : kat ys xs[x].1 = none := kat_none no
        refine wpAny_pure ?_
        show wpAny _ _ (if (!false) = true then _ else _) _ _ _
        rw [if_pos (by decide)]
        exact wpAny_pure (wpAny_pure (bad (t1 hn)))
      · have hs : kat ys xs[x].1 = some y.2 := kat_some Tb.nd hy ey
        refine wpAny_bind (wpAny_dictEntries Tb.ob Tb.da ?_)
        rw [Tb.row j, hy]
        refine wpAny_holding (wpAny_mono (t2 _ hs s' g) (fun c s2 ⟨ec, g2⟩ => ?_) fun _ _ z => z)
        subst ec
        cases hc : e x with
        | false =>
          show wpAny _ _ (if (!false) = true then _ else _) _ _ _
          rw [if_pos (by decide)]
          have z := h' s2 g2
          rw [show (List.range xs.length).all e = false from List.all_eq_false.mpr ⟨x, List.mem_range.mpr hxl, by rw [hc]; exact Bool.false_ne_true⟩] at z
          exact wpAny_pure (wpAny_pure z)
        | true =>
          show wpAny _ _ (if (!true) = true then _ else _) _ _ _
          rw [if_neg (by decide)]
          obtain ⟨Ta2, _, _, _⟩ := hJ _ g2
          refine wpAny_bind (wpAny_dictEpoch Ta2.ob Ta2.da ?_)
          rw [if_neg (by simp)]
          refine wpAny_pure ⟨g2, rfl, x + 1, hrest, hlt, fun j hj => ?_⟩
          rcases Nat.lt_or_ge j x with h | h
          · exact before j h
          · obtain rfl : j = x := by omega
            exact hc
    · rintro q s' ⟨g, rfl, i, hr, hi, before⟩
      have hin : i = es.size := by
        rcases Nat.lt_or_ge i es.size with h | h
        · have e : es.size - i = (es.size - (i + 1)) + 1 := by omega
          rw [e, List.range'_succ] at hr; exact nomatch hr
        · exact Nat.le_antisymm hi h
      refine wpAny_pure ?_
      have z := h' s' g
      rw [show (List.range xs.length).all e = true from List.all_eq_true.mpr fun j hj => before j (by rw [hin, la]; exact List.mem_range.mp hj)] at z
      exact z
theorem eq_dicts {a b : Addr} {oa ob : Obj} {es fs : Array DictEntry} {ep eq : Nat} {xs ys : List DA.Row} {Q : Value → Shared → Prop} (ha : (a == sysModules) = false) (hb : (b == sysModules) = false) (hu : A.units < cLine) (hu8 : A.in1.units + 8 < cLine) (J : Shared → Prop)
    (hJ : ∀ s, J s → At w s.heap a oa es ep xs ∧ At w s.heap b ob fs eq ys ∧ Kys s.heap xs ∧ Kys s.heap ys) (e : Nat → Bool)
    (turn : xs.length = ys.length → ∀ i x, xs[i]? = some x → (kat ys x.1 = none → e i = false) ∧ ∀ r, kat ys x.1 = some r → ∀ s, J s → wpAny (model prog w) A.in1 (eqBool x.2.2 r.2) (fun c s' => c = e i ∧ J s') E s)
    (g : J s) (h : ∀ s', J s' → Q (.bool (decide (xs.length = ys.length) && (List.range xs.length).all e)) s') : wpAny (model prog w) A (compareOp .Eq (.ref a) (.ref b)) Q E s := by
  obtain ⟨Ta, Tb, _, _⟩ := hJ _ g
  have ta : s.TypeIs (.ref a) "dict" := D.type ⟨_, _, _, Ta⟩
  have tb : s.TypeIs (.ref b) "dict" := D.type ⟨_, _, _, Tb⟩
  refine wpAny_richCompare_same_room (op := .Eq) ta tb PySem.F.slot_dict_eq (wpAny_call_entry PySem.F.slot_dict_eq ta PySem.F.entry_dict_eq ?_ (PySem.F.args_dict_eq_2 _ _)) hu
  show wpAny _ _ (Builtin.Dict.dictSlotArgs "__eq__" ⟨[.ref a, .ref b], []⟩ >>= _) _ _ s
  refine wpAny_bind ?_
  unfold Builtin.Dict.dictSlotArgs
  refine wpAny_bind (wpAny_notOrdered_dict ta ?_)
  show wpAny _ _ (pure (Value.ref a, Value.ref b)) _ _ s
  refine wpAny_pure ?_
  refine wpAny_bind (wpAny_isInstance (T := "dict") tb PySem.F.sub_dict_dict ?_)
  simp only [Bool.not_true, Bool.false_eq_true, if_false]
  refine wpAny_bind (wpAny_pure (wpAny_bind (wpAny_pure ?_)))
  refine wpAny_bind (same_pairs ha hb hu8 J hJ e turn g (fun s' g' => ?_))
  refine wpAny_pure ⟨_, rfl, ?_, ?_⟩
  · exact fun x => nomatch x
  · simpa using h s' g'
end
open OLI GQ
theorem rel_at : ∀ {rs : List HRow} {xs : List DA.Row}, Rel rs xs → ∀ {i : Nat} {x : DA.Row}, xs[i]? = some x → ∃ r, rs[i]? = some r ∧ r.1 = x.1 ∧ RelV r.2.1 x.2.1 ∧ RelV r.2.2 x.2.2
  | [], [], _, i, x, h => by cases h
  | r :: rs, y :: xs, h, i, x, hx => by
    cases h with
    | cons h1 h2 =>
      cases i with
      | zero =>
        cases hx
        exact ⟨r, rfl, h1⟩
      | succ i => exact rel_at (i := i) h2 hx
theorem rows_one {w : World} : ∀ {xs ys : List DA.Row}, xs.map (·.1) = ys.map (·.1) → xs.map (ent w) = ys.map (ent w) → xs = ys
  | [], [], _, _ => rfl
  | [], _ :: _, h, _ => by cases h
  | _ :: _, [], h, _ => by cases h
  | x :: xs, y :: ys, h1, h2 => by
    rw [List.map_cons, List.map_cons] at h1 h2
    obtain ⟨a1, a2⟩ := List.cons.inj h1
    obtain ⟨b1, b2⟩ := List.cons.inj h2
    rw [rows_one a2 b2]
    unfold ent at b1
    injection b1 with c1 c2 c3
    exact congrArg (· :: ys) (Prod.ext a1 (Prod.ext c2 c3))
section
variable {X : Cx} {n : Nat}
theorem mut_do {w : World} {a : Addr} {rs : List HRow} : Mut (some (DO w a rs)) := by
  unfold DO
  exact trivial
end
end DAE

set_option maxHeartbeats 3900000
namespace EQB
open PySem PySem.SeqAt PySem.Spec PyProof.Rows PySem.Calls L2 GQ
open AutoSeq1 (wpAny_loadPart')
open MeetsSeq MeetsSeq2 MeetsSeq3 SeqRoads2
section
variable {prog : Program} {w : World} {A : Around} {R : Result → Shared → Prop}
theorem tuple_eqB (l b : Addr) (items items2 : Array Value) (n n2 : Nat) (dd dd2 : Option Addr) (sl sl2 : Array (Option Value)) (e : Nat → Bool) (I : Shared → Prop)
    (turn : ∀ i (h1 : i < items.size) (h2 : i < items2.size) s, (∀ j, j < i → e j = true) → I s → wpAny (model prog w) A.in1 (eqBool items[i] items2[i]) (fun r s' => r = e i ∧ I s') (fun e s' => R (.error e) s') s)
    (fin : ∀ s, I s → R (.ok (.ret (.bool ((List.range (items.toList.zip items2.toList).length).all e && items.size == items2.size)))) s) {s : Shared} (hl1 : s.heap.get? l = some { cls := .type "tuple", dict := dd, data := .seq items n, slots := sl }) (hb1 : s.heap.get? b = some { cls := .type "tuple", dict := dd2, data := .seq items2 n2, slots := sl2 }) (h : I s) :
    wpAny (model prog w) A.in1 (Builtin.«tuple.__eq__» ⟨[.ref l, .ref b], []⟩) (FinOf prog w A R) (fun e s' => R (.error e) s') s := by
  have f2 := AutoSeq1.sub_tuple_tuple
  have h0 := h
  obtain ⟨hp, g, d, tk, os⟩ := s
  wp_walk using wpAny_loadPart' hl1, wpAny_loadPart' hb1, wpAny_forIn_list _ (fun rest b s' => I s' ∧ b.1 = none ∧ ∃ i, rest = (items.toList.zip items2.toList).drop i ∧ i ≤ (items.toList.zip items2.toList).length ∧ ∀ j, j < i → e j = true) _
  case turn =>
    rintro ⟨y, x⟩ rest b s' ⟨hI, hb', i, hz, hi, before⟩
    have hlt : i < (items.toList.zip items2.toList).length := by
      rcases Nat.lt_or_ge i (items.toList.zip items2.toList).length with h' | h'
      · exact h'
      · rw [List.drop_of_length_le h'] at hz; cases hz
    have hm : i < min items.size items2.size := by simpa using hlt
    have h1 : i < items.size := by omega
    have h2 : i < items2.size := by omega
    rw [List.drop_eq_getElem_cons hlt] at hz
    injection hz with hyx hrest
    have hy : y = items[i] := by have := congrArg Prod.fst hyx; simpa using this
    have hx : x = items2[i] := by have := congrArg Prod.snd hyx; simpa using this
    subst hy hx
    refine wpAny_bind (wpAny_mono (turn i h1 h2 s' before hI) (fun r s2 q2 => ?_) fun _ _ x => x)
    obtain ⟨hr, q2⟩ := q2
    have z := fin s2 q2
    cases hc : e i with
    | true =>
      rw [hc] at hr
      subst hr
      wp_walk
      refine ⟨q2, rfl, i + 1, hrest, hlt, fun j hj => ?_⟩
      rcases Nat.lt_or_ge j i with h | h
      · exact before j h
      · obtain rfl : j = i := by omega
        exact hc
    | false =>
      rw [hc] at hr
      subst hr
      rw [show (List.range (items.toList.zip items2.toList).length).all e = false from List.all_eq_false.mpr ⟨i, List.mem_range.mpr hlt, by rw [hc]; exact Bool.false_ne_true⟩, Bool.false_and] at z
      wp_walk
      exact z
  case fin =>
    rintro ⟨b1, b2⟩ s' ⟨hI, hb', i, hz, hi, before⟩
    simp only at hb'
    subst hb'
    have hi' : i = (items.toList.zip items2.toList).length := by
      rcases Nat.lt_or_ge i (items.toList.zip items2.toList).length with h' | h'
      · rw [List.drop_eq_getElem_cons h'] at hz; cases hz
      · omega
    have z := fin s' hI
    rw [show (List.range (items.toList.zip items2.toList).length).all e = true from List.all_eq_true.mpr fun j hj => before j (by rw [hi']; exact List.mem_range.mp hj), Bool.true_and] at z
    wp_walk
    simpa [Builtin.Tuple.tupleCompareSizes] using z
  case h =>
    exact ⟨h0, rfl, 0, rfl, Nat.zero_le _, fun j hj => absurd hj (Nat.not_lt_zero _)⟩
theorem rc_tupB {E : Value → Shared → Prop} {l b : Addr} {items items2 : Array Value} {Q : Value → Shared → Prop} (hu : A.units < cLine) (e : Nat → Bool) (I : Shared → Prop) {s : Shared}
    (hl : s.heap.IsTuple l items) (hb : s.heap.IsTuple b items2)
    (turn : ∀ i (h1 : i < items.size) (h2 : i < items2.size) s, (∀ j, j < i → e j = true) → I s → wpAny (model prog w) A.in1 (eqBool items[i] items2[i]) (fun r s' => r = e i ∧ I s') E s)
    (fin : ∀ s, I s → Q (.bool ((List.range (items.toList.zip items2.toList).length).all e && items.size == items2.size)) s) (h : I s) : wpAny (model prog w) A (richCompare .Eq (.ref l) (.ref b)) Q E s := by
  obtain ⟨⟨cls, dd, data, sl⟩, ho, hc, n, hd⟩ := id hl
  obtain ⟨⟨cls2, dd2, data2, sl2⟩, ho2, hc2, n2, hd2⟩ := id hb
  simp only at hc hd hc2 hd2
  subst hc hd hc2 hd2
  refine wpAny_richCompare_same_room (op := .Eq) ⟨_, ho, rfl⟩ ⟨_, ho2, rfl⟩ PySem.F.slot_tuple_eq (call_here PySem.F.slot_tuple_eq ⟨_, ho, rfl⟩ PySem.F.entry_tuple_eq (PySem.F.args_tuple_eq_2 _ _) ?_) hu
  exact tuple_eqB (R := wants (fun v s' => v ≠ .notImplemented ∧ Q v s') E) l b items items2 n n2 dd dd2 sl sl2 e I turn (fun s' q => ⟨(fun x => nomatch x), fin s' q⟩) ho ho2 h
end
abbrev EqvB := V → V → Bool → Hp → Prop
def EqGB (X : Cx) (n : Nat) (D : EqvB) : Prop :=
  ∀ (A : Around) (pins : List (Addr × Obj)) (s : Shared) (σ : L2.St) (H : Hp) (x y : V) (c : Bool) (u v : Value), Sub X n A → Inv X pins σ H s → RelV x u → RelV y v → D x y c H →
    wpAny (model X.prog X.w) A (eqBool u v) (fun r s' => r = c ∧ ∃ H', Inv X pins σ H' s' ∧ Ext H H') X.xe s
def RcGB (X : Cx) (n : Nat) (D : EqvB) : Prop :=
  ∀ (A : Around) (pins : List (Addr × Obj)) (s : Shared) (σ : L2.St) (H : Hp) (x y : V) (c : Bool) (u v : Value), Sub X n A → Inv X pins σ H s → RelV x u → RelV y v → D x y c H →
    wpAny (model X.prog X.w) A (richCompare .Eq u v) (fun r s' => r = .bool c ∧ ∃ H', Inv X pins σ H' s' ∧ Ext H H') X.xe s
section
variable {X : Cx} {n m : Nat} {D D' : EqvB}
theorem EqGB.mono (h : EqGB X n D) (hn : n ≤ m) : EqGB X m D := fun A pins s σ H x y c u v sb => h A pins s σ H x y c u v (sb.mono hn)
theorem EqGB.or (h : EqGB X n D) (h' : EqGB X n D') : EqGB X n (fun x y c H => D x y c H ∨ D' x y c H) := fun A pins s σ H x y c u v sb I rx ry d => by
  rcases d with d | d
  · exact h A pins s σ H x y c u v sb I rx ry d
  · exact h' A pins s σ H x y c u v sb I rx ry d
theorem EqGB.imp (h : EqGB X n D) (hd : ∀ x y c H, D' x y c H → D x y c H) : EqGB X n D' := fun A pins s σ H x y c u v sb I rx ry d => h A pins s σ H x y c u v sb I rx ry (hd x y c H d)
def DFlatB : EqvB := fun x y c _ => flatV x = true ∧ flatV y = true ∧ c = eqV x y
theorem eqGB_flat : EqGB X 0 DFlatB := by
  intro A pins s σ H x y c u v sb I rx ry d
  obtain ⟨fx, fy, rfl⟩ := d
  exact (eqAt_V (A := A) (s := s) rx ry fx fy) X.prog X.w X.xe _ ⟨rfl, H, I, Ext.rfl'⟩
def PrsB (D : EqvB) (xs ys : List V) (e : Nat → Bool) (H : Hp) : Prop := ∀ (i : Nat) x y, xs[i]? = some x → ys[i]? = some y → (∀ j, j < i → e j = true) → D x y (e i) H
def DTupB (K : PySem.W.Frag) (D : EqvB) : EqvB := fun x y c H => ∃ a b xs ys e, x = .ref a ∧ y = .ref b ∧ SqT K H a xs ∧ SqT K H b ys ∧ PrsB D xs ys e H ∧ c = ((List.range (min xs.length ys.length)).all e && decide (xs.length = ys.length))
theorem turnB (h : EqGB X n D) {A : Around} (sb : Sub X (n + 1) A) {pins : List (Addr × Obj)} {σ : L2.St} {H : Hp} {xs ys : List V} {its its2 : List Value} {e : Nat → Bool} (mono : ∀ i x y H', xs[i]? = some x → ys[i]? = some y → (∀ j, j < i → e j = true) → Ext H H' → D x y (e i) H') (r : Vals xs its) (r2 : Vals ys its2)
    (i : Nat) (h1 : i < its.toArray.size) (h2 : i < its2.toArray.size) (s' : Shared) (bf : ∀ j, j < i → e j = true) (l : LoopI X pins σ H s') :
    wpAny (model X.prog X.w) A.in1 (eqBool its.toArray[i] its2.toArray[i]) (fun r s2 => r = e i ∧ LoopI X pins σ H s2) X.xe s' := by
  obtain ⟨H1, I1, e1⟩ := l
  have g1 : its[i]? = some its.toArray[i] := by
    have h1' : i < its.length := by simpa using h1
    rw [List.getElem?_eq_getElem h1'] <;> simp
  have g2 : its2[i]? = some its2.toArray[i] := by
    have h2' : i < its2.length := by simpa using h2
    rw [List.getElem?_eq_getElem h2'] <;> simp
  have k1 : i < xs.length := by rw [r.length]; simpa using h1
  have k2 : i < ys.length := by rw [r2.length]; simpa using h2
  obtain ⟨u, hu, ru⟩ := r.get (List.getElem?_eq_getElem k1)
  obtain ⟨v, hv, rv⟩ := r2.get (List.getElem?_eq_getElem k2)
  rw [g1] at hu
  rw [g2] at hv
  rw [Option.some.inj hu, Option.some.inj hv]
  refine wpAny_mono (h A.in1 pins s' σ H1 _ _ _ u v sb.in1 I1 ru rv (mono i _ _ H1 (List.getElem?_eq_getElem k1) (List.getElem?_eq_getElem k2) bf e1)) (fun r s2 q => ?_) fun _ _ x => x
  obtain ⟨hr, H2, I2, e2⟩ := q
  exact ⟨hr, H2, I2, e1.trans e2⟩
theorem rcGB_tup (hD : ∀ x y c H H', Ext H H' → D x y c H → D x y c H') (h : EqGB X n D) : RcGB X (n + 1) (DTupB X.K D) := by
  intro A pins s σ H x y c u v sb I rx ry d
  obtain ⟨a, b, xs, ys, e, rfl, rfl, ha, hb, p, rfl⟩ := d
  cases rx
  cases ry
  obtain ⟨its, r, t1, z⟩ := I.tuple ha
  obtain ⟨its2, r2, t2, z2⟩ := I.tuple hb
  refine rc_tupB sb.room.units0 e (fun s' => LoopI X pins σ H s') t1 t2 (fun i h1 h2 s' bf q => turnB h sb (fun i x y H' g1 g2 bf x2 => hD _ _ _ _ _ x2 (p i x y g1 g2 bf)) r r2 i h1 h2 s' bf q) (fun s' q => ⟨?_, q⟩) ⟨H, I, Ext.rfl'⟩
  have l1 := r.length
  have l2 := r2.length
  have e1 : (its.toArray.toList.zip its2.toArray.toList).length = min xs.length ys.length := by simp [l1, l2]
  have e2 : (its.toArray.size == its2.toArray.size) = decide (xs.length = ys.length) := by
    rw [List.size_toArray, List.size_toArray, ← l1, ← l2]
    rfl
  rw [e1, e2]
theorem RcGB.eqG (h : RcGB X n D) (hr : ∀ x y c H, D x y c H → ∃ a b, x = .ref a ∧ y = .ref b ∧ (a = b → c = true)) : EqGB X n D := by
  intro A pins s σ H x y c u v sb I rx ry d
  obtain ⟨a, b, rfl, rfl, hab⟩ := hr _ _ _ _ d
  cases rx
  cases ry
  by_cases q : a = b
  · subst q
    rw [hab rfl]
    exact SeqAt.EqAt.same (A := A) (s := s) (.ref a) X.prog X.w X.xe _ ⟨rfl, H, I, Ext.rfl'⟩
  · refine GQ.eqBool_refG q (wpAny_mono (h A pins s σ H (.ref a) (.ref b) c _ _ sb I rfl rfl d) (fun r s' q => ?_) fun _ _ x => x)
    obtain ⟨hr', q⟩ := q
    exact ⟨c, hr', rfl, q⟩
end
open DA
def HF (w : World) (H : Hp) (a : Addr) (kvs : List (NK × V)) : Prop := ∃ rs : List HRow, (H a = some (DO w a rs) ∨ ∃ od, H a = some (.frz od (DO w a rs))) ∧ rs.map (fun r => (r.1, r.2.2)) = kvs ∧ ∀ r ∈ rs, KV H r.2.1 r.1 ∧ r.1.depth ≤ 8
def Kp (H H' : Hp) : Prop := ∀ d o, H d = some o → H' d = some o ∨ ∃ φ od, o = .ext φ ∧ H' d = some (.frz od (.ext φ))
theorem Kp.refl (H : Hp) : Kp H H := fun _ _ h => .inl h
theorem Kp.ext {H H' : Hp} (e : Ext H H') : Kp H H' := fun d o h => .inl (e d o h)
theorem Kp.of {H H' : Hp} (k : Kp H H') {d : Addr} {o : HO} (h : H d = some o) (ne : ∀ φ, o ≠ .ext φ) : H' d = some o := by
  rcases k d o h with h | ⟨φ, _, e, _⟩
  · exact h
  · exact absurd e (ne φ)
theorem Kp.trans {H H1 H2 : Hp} (a : Kp H H1) (b : Kp H1 H2) : Kp H H2 := fun d o h => by
  rcases a d o h with h1 | ⟨φ, od, e, h1⟩
  · exact b d o h1
  · exact .inr ⟨φ, od, e, b.of h1 (by intro φ z; cases z)⟩
theorem Kp.tup {H H' : Hp} (k : Kp H H') {b : Addr} {xs : List V} (h : H b = some (.tup xs)) : H' b = some (.tup xs) := k.of h (by intro φ z; cases z)
theorem HAt.hf {w : World} {H : Hp} {a : Addr} {kvs : List (NK × V)} (h : HAt w H a kvs) : HF w H a kvs := by
  obtain ⟨rs, h1, h2, h3⟩ := h
  exact ⟨rs, .inl h1, h2, h3⟩
theorem HF.kp {w : World} {H H' : Hp} {a : Addr} {kvs : List (NK × V)} (h : HF w H a kvs) (k : Kp H H') : HF w H' a kvs := by
  obtain ⟨rs, h1, h2, h3⟩ := h
  refine ⟨rs, ?_, h2, fun r hr => ⟨(h3 r hr).1.up fun b xs q => k.tup q, (h3 r hr).2⟩⟩
  rcases h1 with h1 | ⟨od, h1⟩
  · rcases k _ _ h1 with h4 | ⟨φ, od, e, h4⟩
    · exact .inl h4
    · exact .inr ⟨od, by rw [e]; exact h4⟩
  · exact .inr ⟨od, k.of h1 (by intro φ z; cases z)⟩
section
variable {X : Cx} {n m : Nat} {D D' : EqvB}
theorem lock2 {pins : List (Addr × Obj)} {σ : L2.St} {H : Hp} {s : Shared} {a : Addr} {kvs : List (NK × V)} (I : Inv X pins σ H s) (h : HF X.w H a kvs) : ∃ H2 od rs, Inv X pins σ H2 s ∧ Kp H H2 ∧ H2 a = some (.frz od (DO X.w a rs)) ∧ rs.map (fun r => (r.1, r.2.2)) = kvs ∧ (∀ r ∈ rs, KV H r.2.1 r.1 ∧ r.1.depth ≤ 8) ∧ ∀ H1 s1, Inv X pins σ H1 s1 → Ext H2 H1 → ∃ H1', Inv X pins σ H1' s1 ∧ Ext H H1' := by
  obtain ⟨rs, h1 | ⟨od, h1⟩, h2, h3⟩ := h
  · obtain ⟨od, I1⟩ := I.lock h1 DAE.mut_do
    have nf := I.nofrz h1 DAE.mut_do
    refine ⟨_, od, rs, I1, fun d o hd => ?_, upd_same, h2, h3, fun H1 s1 J x => ⟨_, J.unlock (x _ _ upd_same) nf, fun c u hc => ?_⟩⟩
    · by_cases e : d = a
      · subst e
        rw [h1] at hd
        cases hd
        exact .inr ⟨_, od, rfl, upd_same⟩
      · exact .inl (by rw [upd_ne e]; exact hd)
    · by_cases e : c = a
      · subst e
        rw [h1] at hc
        cases hc
        exact upd_same
      · rw [upd_ne e]
        exact x _ _ (by rw [upd_ne e]; exact hc)
  · exact ⟨H, od, rs, I, Kp.refl H, h1, h2, h3, fun H1 s1 J x => ⟨H1, J, x⟩⟩
def DDicB (w : World) (D : EqvB) : EqvB := fun x y c H => ∃ a b ks ls e, x = .ref a ∧ y = .ref b ∧ HF w H a ks ∧ HF w H b ls ∧ (∀ (i : Nat) (k : NK) (v : V), ks[i]? = some (k, v) → (kat ls k = none → e i = false) ∧ ∀ v', kat ls k = some v' → D v v' (e i) H) ∧ c = (decide (ks.length = ls.length) && (List.range ks.length).all e)
theorem rcGB_dict (hD : ∀ x y c H H', Kp H H' → D x y c H → D x y c H') (h : EqGB X n D) (hu : ∀ A, Sub X (n + 1) A → A.in1.units + 8 < cLine) : RcGB X (n + 1) (DDicB X.w D) := by
  intro A pins s σ H x y c u v sb I rx ry d
  obtain ⟨a, b, ks, ls, e, rfl, rfl, hda, hdb, hv, rfl⟩ := d
  cases rx
  cases ry
  obtain ⟨H1, oa, rs, I1, k1, fa1, h2, h3, back1⟩ := lock2 I hda
  obtain ⟨H2, ob, ts, I2, k2, fb, g2, g3, back2⟩ := lock2 I1 (hdb.kp k1)
  have fa : H2 a = some (.frz oa (DO X.w a rs)) := k2.of fa1 (by intro φ z; cases z)
  have k02 := k1.trans k2
  have tab : ∀ {H1 : Hp} {s1 : Shared} {d : Addr} {od : Obj} {qs : List HRow}, Inv X pins σ H1 s1 → H1 d = some (.frz od (DO X.w d qs)) → (d == sysModules) = false ∧ ∃ es ep xs, At X.w s1.heap d od es ep xs ∧ Rel qs xs := fun {H1 s1 d od qs} J hd => by
    obtain ⟨e0, ⟨e1, _, xs, ⟨o, es, ep, T⟩, r⟩, _⟩ := J.hok _ _ hd
    have : o = od := by
      have z := T.ob
      rw [e0] at z
      exact (Option.some.inj z).symm
    subst this
    exact ⟨e1, es, ep, xs, T, r⟩
  obtain ⟨ha0, es, ep, xs, Ta, ra⟩ := tab I2 fa
  obtain ⟨hb0, fs, eq, ys, Tb, rb⟩ := tab I2 fb
  have one : ∀ {h h' : Heap} {d : Addr} {od : Obj} {es es' : Array DictEntry} {ep ep' : Nat} {xs xs' : List DA.Row} {qs : List HRow}, At X.w h d od es ep xs → At X.w h' d od es' ep' xs' → Rel qs xs → Rel qs xs' → es' = es ∧ ep' = ep ∧ xs' = xs := fun {h h' d od es es' ep ep' xs xs' qs} T T' r r' => by
    have z := T.da
    rw [T'.da] at z
    injection z with z1 z2
    subst z1
    subst z2
    exact ⟨rfl, rfl, DAE.rows_one (by rw [← rel_keys r, ← rel_keys r']) (by rw [← T.en, ← T'.en])⟩
  have kyJ : ∀ {H0 H3 : Hp} {s1 : Shared} {qs : List HRow} {xs : List DA.Row}, Inv X pins σ H3 s1 → Kp H0 H3 → Rel qs xs → (∀ r ∈ qs, KV H0 r.2.1 r.1 ∧ r.1.depth ≤ 8) → Kys s1.heap xs := fun {H0 H3 s1 qs xs} J x r k => rel_kys J.hok r fun z hz => ⟨(k z hz).1.up fun c us hc => x.tup hc, (k z hz).2⟩
  have kl : ks.length = xs.length := by rw [← h2, List.length_map, rel_len ra]
  have ll : ls.length = ys.length := by rw [← g2, List.length_map, rel_len rb]
  refine DAE.eq_dicts (oa := oa) (ob := ob) (es := es) (fs := fs) (ep := ep) (eq := eq) (xs := xs) (ys := ys) ha0 hb0 sb.room.units0 (hu A sb) (fun s' => LoopI X pins σ H2 s') (fun s' g => ?_) e (fun _ i x hix => ?_) ⟨H2, I2, Ext.rfl'⟩ (fun s' g => ?_)
  · obtain ⟨H3, J, x⟩ := g
    obtain ⟨_, es', ep', xs', T', r'⟩ := tab J (x _ _ fa)
    obtain ⟨_, fs', eq', ys', U', u'⟩ := tab J (x _ _ fb)
    obtain ⟨rfl, rfl, rfl⟩ := one Ta T' ra r'
    obtain ⟨rfl, rfl, rfl⟩ := one Tb U' rb u'
    exact ⟨T', U', kyJ J (k02.trans (Kp.ext x)) r' h3, kyJ J (k2.trans (Kp.ext x)) u' g3⟩
  · obtain ⟨r, hr1, er, er1, er2⟩ := DAE.rel_at ra hix
    have hk : ks[i]? = some (r.1, r.2.2) := by rw [← h2, List.getElem?_map, hr1]; rfl
    obtain ⟨v1, v2⟩ := hv i _ _ hk
    have kr := kat_rel (k := r.1) rb
    have kls : kat ls r.1 = (kat ts r.1).map (·.2) := by
      rw [← g2, show (ts.map fun r => (r.1, r.2.2)) = ts.map (fun x => (x.1, (fun p : V × V => p.2) x.2)) from rfl, kat_map]
    rw [← er]
    refine ⟨fun hn => v1 ?_, fun r' hr' s' g => ?_⟩
    · rw [kls]
      cases hq : kat ts r.1 with
      | none => rfl
      | some z =>
        rw [hq, hn] at kr
        exact False.elim kr
    · cases hq : kat ts r.1 with
      | none =>
        rw [hq, hr'] at kr
        exact False.elim kr
      | some z =>
        rw [hq, hr'] at kr
        have kr' : RelV z.2 r'.2 := kr
        obtain ⟨H3, J, xx⟩ := g
        refine wpAny_mono (h A.in1 pins s' σ H3 _ _ _ _ _ sb.in1 J er2 kr' (hD _ _ _ _ _ (k02.trans (Kp.ext xx)) (v2 z.2 (by rw [kls, hq]; rfl)))) (fun c2 s2 q => ?_) fun _ _ x => x
        obtain ⟨hc, H4, J4, x4⟩ := q
        exact ⟨hc, H4, J4, xx.trans x4⟩
  · obtain ⟨H3, J, x⟩ := g
    obtain ⟨H4, J4, x4⟩ := back2 _ _ J x
    obtain ⟨H5, J5, x5⟩ := back1 _ _ J4 x4
    rw [← kl, ← ll]
    exact ⟨rfl, H5, J5, x5⟩
end
end EQB

set_option maxHeartbeats 3900000
namespace T5
open PySem PySem.Spec PyProof.Rows L2 TL
open CB XW LE LR EQB
def lkC (cs : Cs) (a : An) : Option Tr := (cs.find? fun c => decide (c.1 = a)).map (·.2)
mutual
def sameT : Tr → Tr → Bool
  | .fin x, .fin y => decide (x = y)
  | .ask k cs o, .ask k' cs' o' => decide (k = k') && ((decide (cs.length = cs'.length) && sameC cs cs') && sameT o o')
  | .fin _, .ask _ _ _ => false
  | .ask _ _ _, .fin _ => false
def sameC : Cs → Cs → Bool
  | [], _ => true
  | (a, t) :: r, cs' => (match lkC cs' a with | some t' => sameT t t' | none => false) && sameC r cs'
end
def oneC (cs' : Cs) (c : An × Tr) : Bool := match lkC cs' c.1 with | some t' => sameT c.2 t' | none => false
theorem sameC_all (cs' : Cs) : ∀ cs : Cs, sameC cs cs' = cs.all (oneC cs')
  | [] => by simp [sameC]
  | (a, t) :: r => by
    rw [List.all_cons, ← sameC_all cs' r]
    simp [sameC, oneC]
theorem all_at {α : Type} (p : α → Bool) (d : Bool) : ∀ l : List α, l.all p = (List.range l.length).all fun i => (l[i]?.map p).getD d
  | l => by
    rw [Bool.eq_iff_iff, List.all_eq_true, List.all_eq_true]
    constructor
    · intro h i hi
      rw [List.getElem?_eq_getElem (List.mem_range.mp hi)]
      exact h _ (List.getElem_mem _)
    · intro h x hx
      obtain ⟨i, hi, rfl⟩ := List.getElem_of_mem hx
      have := h i (List.mem_range.mpr hi)
      rw [List.getElem?_eq_getElem hi] at this
      exact this
mutual
inductive UF (w : World) (N : Addr → Prop) (H : Hp) : V → Tr → Prop
  | fin {p : Addr} {z : Str} (r : H p = some (.tup [.str "end", .str z])) : UF w N H (.ref p) (.fin z)
  | ask {p kp d : Addr} {ov : V} {kvs : List (DA.NK × V)} {k : Lk} {cs : Cs} {o : Tr} (r : H p = some (.tup [.str "ask", .ref kp, .ref d, ov])) (rk : H kp = some (.tup (lkV k))) (hn : N d) (hd : HF w H d kvs) (c : CsF w N H kvs cs) (t : UF w N H ov o) : UF w N H (.ref p) (.ask k cs o)
inductive CsF (w : World) (N : Addr → Prop) (H : Hp) : List (DA.NK × V) → Cs → Prop
  | nil : CsF w N H [] []
  | cons {v : V} {kvs : List (DA.NK × V)} {a : An} {t : Tr} {cs : Cs} (h : UF w N H v t) (c : CsF w N H kvs cs) : CsF w N H ((anK a, v) :: kvs) ((a, t) :: cs)
end
mutual
theorem UAt.uf {w : World} {N : Addr → Prop} {H : Hp} : ∀ {v : V} {t : Tr}, UAt w N H v t → UF w N H v t
  | _, _, .fin r => .fin r
  | _, _, .ask r rk hn hd c t => .ask r rk hn (EQB.HAt.hf hd) (CsU.uf c) (UAt.uf t)
theorem CsU.uf {w : World} {N : Addr → Prop} {H : Hp} : ∀ {v : List (DA.NK × V)} {t : Cs}, CsU w N H v t → CsF w N H v t
  | _, _, .nil => .nil
  | _, _, .cons h c => .cons (UAt.uf h) (CsU.uf c)
end
mutual
theorem UF.kp {w : World} {N : Addr → Prop} {H H' : Hp} (s : Kp H H') : ∀ {v : V} {t : Tr}, UF w N H v t → UF w N H' v t
  | _, _, .fin r => .fin (s.tup r)
  | _, _, .ask r rk hn hd c t => .ask (s.tup r) (s.tup rk) hn (hd.kp s) (CsF.kp s c) (UF.kp s t)
theorem CsF.kp {w : World} {N : Addr → Prop} {H H' : Hp} (s : Kp H H') : ∀ {v : List (DA.NK × V)} {t : Cs}, CsF w N H v t → CsF w N H' v t
  | _, _, .nil => .nil
  | _, _, .cons h c => .cons (UF.kp s h) (CsF.kp s c)
end
theorem csF_len {w : World} {N : Addr → Prop} {H : Hp} : ∀ {kvs : List (DA.NK × V)} {cs : Cs}, CsF w N H kvs cs → kvs.length = cs.length
  | _, _, .nil => rfl
  | _, _, .cons h c => by rw [List.length_cons, List.length_cons, csF_len c]
theorem csF_at {w : World} {N : Addr → Prop} {H : Hp} : ∀ {kvs : List (DA.NK × V)} {cs : Cs}, CsF w N H kvs cs → ∀ {i : Nat} {k : DA.NK} {v : V}, kvs[i]? = some (k, v) → ∃ a t, cs[i]? = some (a, t) ∧ k = anK a ∧ UF w N H v t
  | _, _, .nil, i, k, v, h => by simp at h
  | _, _, .cons h c, i, k, v, hi => by
    cases i with
    | zero =>
      cases hi
      exact ⟨_, _, rfl, rfl, h⟩
    | succ i => exact csF_at c hi
theorem csF_get {w : World} {N : Addr → Prop} {H : Hp} {a : An} (wa : AnW a) : ∀ {kvs : List (DA.NK × V)} {cs : Cs}, CsF w N H kvs cs → (∀ c ∈ cs, AnW c.1) → (DA.kat kvs (anK a) = none ∧ lkC cs a = none) ∨ ∃ v t, DA.kat kvs (anK a) = some v ∧ lkC cs a = some t ∧ UF w N H v t ∧ (a, t) ∈ cs
  | _, _, .nil, _ => .inl ⟨rfl, rfl⟩
  | _, _, @CsF.cons _ _ _ v kvs b t cs h c, ws => by
    unfold DA.kat lkC
    rw [List.find?_cons, List.find?_cons]
    by_cases e : b = a
    · subst e
      rw [decide_eq_true rfl, decide_eq_true rfl]
      exact .inr ⟨v, t, rfl, rfl, h, List.mem_cons_self⟩
    · have ne : ¬ anK b = anK a := fun q => e (anK_inj (ws _ List.mem_cons_self) wa q)
      rw [decide_eq_false e, decide_eq_false ne]
      rcases csF_get wa c fun c hc => ws c (List.mem_cons_of_mem _ hc) with q | ⟨v', t', q1, q2, q3, q4⟩
      · exact .inl q
      · exact .inr ⟨v', t', q1, q2, q3, List.mem_cons_of_mem _ q4⟩
def DLk : EqvB := fun x y c H => ∃ u u' k k', x = .ref u ∧ y = .ref u' ∧ H u = some (.tup (lkV k)) ∧ H u' = some (.tup (lkV k')) ∧ LkW k ∧ LkW k' ∧ c = decide (k = k')
def DTr (w : World) (n : Nat) : EqvB := fun x y c H => ∃ t t' N N' ab ab', UF w N H x t ∧ UF w N' H y t' ∧ (∀ b, N b → ¬ N' b) ∧ OkT ab t ∧ OkT ab' t' ∧ dep t < n ∧ c = sameT t t'
def DDc (w : World) (n : Nat) : EqvB := fun x y c H => ∃ a b ks ls N N' k k' ab ab' cs cs', x = .ref a ∧ y = .ref b ∧ a ≠ b ∧ HF w H a ks ∧ HF w H b ls ∧ CsF w N H ks cs ∧ CsF w N' H ls cs' ∧ (∀ b, N b → ¬ N' b) ∧ OkC ab k cs ∧ OkC ab' k' cs' ∧ depC cs < n ∧ c = (decide (cs.length = cs'.length) && sameC cs cs')
theorem DLk.kp {x y : V} {c : Bool} {H H' : Hp} (s : Kp H H') (h : DLk x y c H) : DLk x y c H' := by
  obtain ⟨u, u', k, k', rfl, rfl, h1, h2, r⟩ := h
  exact ⟨u, u', k, k', rfl, rfl, s.tup h1, s.tup h2, r⟩
theorem DTr.kp {w : World} {n : Nat} {x y : V} {c : Bool} {H H' : Hp} (s : Kp H H') (h : DTr w n x y c H) : DTr w n x y c H' := by
  obtain ⟨t, t', N, N', ab, ab', h1, h2, r⟩ := h
  exact ⟨t, t', N, N', ab, ab', h1.kp s, h2.kp s, r⟩
theorem DDc.kp {w : World} {n : Nat} {x y : V} {c : Bool} {H H' : Hp} (s : Kp H H') (h : DDc w n x y c H) : DDc w n x y c H' := by
  obtain ⟨a, b, ks, ls, N, N', k, k', ab, ab', cs, cs', rfl, rfl, ne, h1, h2, h3, h4, r⟩ := h
  exact ⟨a, b, ks, ls, N, N', k, k', ab, ab', cs, cs', rfl, rfl, ne, h1.kp s, h2.kp s, h3.kp s, h4.kp s, r⟩
theorem RcGB.imp {X : Cx} {n : Nat} {D D' : EqvB} (h : RcGB X n D) (hd : ∀ x y c H, D' x y c H → D x y c H) : RcGB X n D' := fun A pins s σ H x y c u v sb I rx ry d => h A pins s σ H x y c u v sb I rx ry (hd x y c H d)
def eAt (xs ys : List V) (i : Nat) : Bool := match xs[i]?, ys[i]? with | some x, some y => eqV x y | _, _ => false
theorem strs_eq {xs ys : List Str} : decide (xs = ys) = ((List.range (min xs.length ys.length)).all (eAt (xs.map V.str) (ys.map V.str)) && decide (xs.length = ys.length)) := by
  rw [Bool.eq_iff_iff, decide_eq_true_iff, Bool.and_eq_true, decide_eq_true_iff, List.all_eq_true]
  constructor
  · rintro rfl
    refine ⟨fun i hi => ?_, rfl⟩
    have hl : i < xs.length := by have := List.mem_range.mp hi; omega
    unfold eAt
    rw [List.getElem?_map, List.getElem?_eq_getElem hl]
    show (xs[i] == xs[i]) = true
    exact beq_self_eq_true _
  · rintro ⟨h, l⟩
    refine List.ext_getElem l fun i h1 h2 => ?_
    have := h i (List.mem_range.mpr (by omega))
    unfold eAt at this
    rw [List.getElem?_map, List.getElem?_map, List.getElem?_eq_getElem h1, List.getElem?_eq_getElem h2] at this
    exact eq_of_beq this
theorem lkS_dec {k k' : Lk} (h : LkW k) (h' : LkW k') : decide (lkS k = lkS k') = decide (k = k') := decide_eq_decide.mpr ⟨lkS_inj h h', fun e => by rw [e]⟩
theorem eqGB_lk {X : Cx} : EqGB X 1 DLk := by
  refine RcGB.eqG (D := DLk) (RcGB.imp (rcGB_tup (D := DFlatB) (fun x y c H H' _ d => d) eqGB_flat) ?_) ?_
  · rintro x y c H ⟨u, u', k, k', rfl, rfl, h1, h2, w1, w2, rfl⟩
    refine ⟨u, u', lkV k, lkV k', eAt (lkV k) (lkV k'), rfl, rfl, SqT.of h1, SqT.of h2, fun i x y hx hy _ => ?_, ?_⟩
    · have fl : ∀ {k : Lk} {i : Nat} {x : V}, (lkV k)[i]? = some x → flatV x = true := fun {k i x} h => by
        rw [lkV_S, List.getElem?_map] at h
        obtain ⟨z, _, rfl⟩ := Option.map_eq_some_iff.mp h
        rfl
      refine ⟨fl hx, fl hy, ?_⟩
      unfold eAt
      rw [hx, hy]
    · rw [← lkS_dec w1 w2, strs_eq, lkV_S, lkV_S, List.length_map, List.length_map]
  · rintro x y c H ⟨u, u', k, k', rfl, rfl, h1, h2, w1, w2, rfl⟩
    refine ⟨u, u', rfl, rfl, fun e => ?_⟩
    subst e
    rw [h1] at h2
    rw [← lkS_dec w1 w2]
    refine decide_eq_true ?_
    rw [lkV_S, lkV_S] at h2
    injection h2 with h2
    injection h2 with h2
    exact (List.map_inj_right fun a b e => V.str.inj e).mp h2
theorem okC_w {ab : List Lk} {k : Lk} {cs : Cs} (h : OkC ab k cs) : ∀ c ∈ cs, AnW c.1 := fun c hc => (okC_mem h c hc).1.2.2
theorem eqGB_dc {X : Cx} {n m : Nat} (h : EqGB X m (DTr X.w n)) : EqGB X (m + 1) (DDc X.w n) := by
  refine RcGB.eqG (D := DDc X.w n) (RcGB.imp (rcGB_dict (D := DTr X.w n) (fun x y c H H' k d => d.kp k) h (fun A sb => by have := sb.in1.room.units; omega)) ?_) ?_
  · rintro x y c H ⟨a, b, ks, ls, N, N', k, k', ab, ab', cs, cs', rfl, rfl, ne, h1, h2, h3, h4, dj, o1, o2, dp, rfl⟩
    refine ⟨a, b, ks, ls, fun i => (cs[i]?.map (oneC cs')).getD true, rfl, rfl, h1, h2, fun i k0 v hi => ?_, ?_⟩
    · obtain ⟨a0, t, hc, rfl, hu⟩ := csF_at h3 hi
      have hm := List.mem_of_getElem? hc
      have wa := okC_w o1 _ hm
      simp only [hc, Option.map_some, Option.getD_some]
      rcases csF_get wa h4 (okC_w o2) with ⟨q1, q2⟩ | ⟨v2, t2, q1, q2, q3, q4⟩
      · refine ⟨fun _ => ?_, fun v' hv => by rw [q1] at hv; cases hv⟩
        unfold oneC
        rw [q2]
      · refine ⟨fun z => (by rw [q1] at z; cases z), fun v' hv => ?_⟩
        rw [q1] at hv
        cases hv
        have e : oneC cs' (a0, t) = sameT t t2 := by
          unfold oneC
          rw [q2]
        rw [e]
        have := depC_mem _ hm
        exact ⟨t, t2, N, N', ab ++ [k], ab' ++ [k'], hu, q3, dj, (okC_mem o1 _ hm).2, (okC_mem o2 _ q4).2, by show dep t < n; have : dep t ≤ depC cs := this; omega, rfl⟩
    · rw [sameC_all, all_at (oneC cs') true cs, csF_len h3, csF_len h4]
  · rintro x y c H ⟨a, b, ks, ls, N, N', k, k', ab, ab', cs, cs', rfl, rfl, ne, _⟩
    exact ⟨a, b, rfl, rfl, fun e => absurd e ne⟩
def DEl (w : World) (n : Nat) : EqvB := fun x y c H => ((DFlatB x y c H ∨ DLk x y c H) ∨ DDc w n x y c H) ∨ DTr w n x y c H
theorem DEl.kp {w : World} {n : Nat} {x y : V} {c : Bool} {H H' : Hp} (s : Kp H H') (h : DEl w n x y c H) : DEl w n x y c H' := by
  rcases h with ((h | h) | h) | h
  · exact .inl (.inl (.inl h))
  · exact .inl (.inl (.inr (h.kp s)))
  · exact .inl (.inr (h.kp s))
  · exact .inr (h.kp s)
theorem rcGB_one {X : Cx} {n : Nat} (ih : EqGB X (3 * n) (DTr X.w n)) : RcGB X (3 * n + 2) (DTr X.w (n + 1)) := by
    have el : EqGB X (3 * n + 1) (DEl X.w n) := ((((eqGB_flat.mono (Nat.zero_le _)).or (eqGB_lk.mono (by omega))).or (eqGB_dc ih)).or (ih.mono (by omega)))
    refine RcGB.imp (rcGB_tup (D := DEl X.w n) (fun x y c H H' k d => d.kp (Kp.ext k)) el) ?_
    · rintro x y c H ⟨t, t', N, N', ab, ab', u1, u2, dj, o1, o2, dp, rfl⟩
      cases u1 with
      | @fin p z r =>
        cases u2 with
        | @fin p' z' r' =>
          refine ⟨p, p', _, _, fun i => if i = 0 then true else decide (z = z'), rfl, rfl, SqT.of r, SqT.of r', fun i x y hx hy _ => .inl (.inl (.inl ?_)), ?_⟩
          · match i, hx, hy with
            | 0, hx, hy => cases hx; cases hy; exact ⟨rfl, rfl, by show true = _; decide +kernel⟩
            | 1, hx, hy => cases hx; cases hy; exact ⟨rfl, rfl, rfl⟩
          · simp [sameT, List.range, List.range.loop]
        | @ask p' kp' d' ov' kvs' k' cs' o' r' rk' hn' hd' c' t' =>
          refine ⟨p, p', _, _, fun _ => false, rfl, rfl, SqT.of r, SqT.of r', fun i x y hx hy bf => .inl (.inl (.inl ?_)), ?_⟩
          · match i, hx, hy, bf with
            | 0, hx, hy, _ => cases hx; cases hy; exact ⟨rfl, rfl, by decide +kernel⟩
            | i + 1, _, _, bf => exact absurd (bf 0 (Nat.succ_pos _)) Bool.false_ne_true
          · simp [sameT, List.range, List.range.loop]
      | @ask p kp d ov kvs k cs o r rk hn hd c t =>
        cases u2 with
        | @fin p' z' r' =>
          refine ⟨p, p', _, _, fun _ => false, rfl, rfl, SqT.of r, SqT.of r', fun i x y hx hy bf => .inl (.inl (.inl ?_)), ?_⟩
          · match i, hx, hy, bf with
            | 0, hx, hy, _ => cases hx; cases hy; exact ⟨rfl, rfl, by decide +kernel⟩
            | i + 1, _, _, bf => exact absurd (bf 0 (Nat.succ_pos _)) Bool.false_ne_true
          · simp [sameT, List.range, List.range.loop]
        | @ask p' kp' d' ov' kvs' k' cs' o' r' rk' hn' hd' c' t' =>
          obtain ⟨lk1, _, _, _, oc1, oo1⟩ := o1
          obtain ⟨lk2, _, _, _, oc2, oo2⟩ := o2
          have h2 : dep (Tr.ask k cs o) = max (depC cs) (dep o) + 1 := by simp [dep]
          rw [h2] at dp
          refine ⟨p, p', _, _, fun i => if i = 0 then true else if i = 1 then decide (k = k') else if i = 2 then (decide (cs.length = cs'.length) && sameC cs cs') else sameT o o', rfl, rfl, SqT.of r, SqT.of r', fun i x y hx hy _ => ?_, ?_⟩
          · match i, hx, hy with
            | 0, hx, hy => cases hx; cases hy; exact .inl (.inl (.inl ⟨rfl, rfl, by show true = _; decide +kernel⟩))
            | 1, hx, hy => cases hx; cases hy; exact .inl (.inl (.inr ⟨kp, kp', k, k', rfl, rfl, rk, rk', lk1.w, lk2.w, rfl⟩))
            | 2, hx, hy =>
              cases hx; cases hy
              exact .inl (.inr ⟨d, d', kvs, kvs', N, N', k, k', ab, ab', cs, cs', rfl, rfl, fun e => dj d hn (by rw [e]; exact hn'), hd, hd', c, c', dj, oc1, oc2, by omega, rfl⟩)
            | 3, hx, hy => cases hx; cases hy; exact .inr ⟨o, o', N, N', ab ++ [k], ab' ++ [k'], t, t', dj, oo1, oo2, by omega, rfl⟩
          · simp [sameT, List.range, List.range.loop, Bool.and_assoc]
theorem eqGB_tr {X : Cx} : ∀ n, EqGB X (3 * n) (DTr X.w n)
  | 0 => fun A pins s σ H x y c u v sb I rx ry ⟨t, _, _, _, _, _, _, _, _, _, _, h, _⟩ => absurd h (Nat.not_lt_zero _)
  | n + 1 => by
    have ih := eqGB_tr (X := X) n
    refine (RcGB.eqG (D := DTr X.w (n + 1)) (rcGB_one ih) ?_).mono (show 3 * n + 2 ≤ 3 * (n + 1) by omega)
    · rintro x y c H ⟨t, t', N, N', ab, ab', u1, u2, dj, o1, o2, dp, rfl⟩
      cases u1 with
      | @fin p z r =>
        cases u2 with
        | @fin p' z' r' =>
          refine ⟨p, p', rfl, rfl, fun e => ?_⟩
          subst e
          rw [r] at r'
          cases r'
          simp [sameT]
        | @ask p' kp' d' ov' kvs' k' cs' o' r' rk' hn' hd' c' t' =>
          refine ⟨p, p', rfl, rfl, fun e => ?_⟩
          subst e
          rw [r] at r'
          cases r'
      | @ask p kp d ov kvs k cs o r rk hn hd c t =>
        cases u2 with
        | @fin p' z' r' =>
          refine ⟨p, p', rfl, rfl, fun e => ?_⟩
          subst e
          rw [r] at r'
          cases r'
        | @ask p' kp' d' ov' kvs' k' cs' o' r' rk' hn' hd' c' t' =>
          refine ⟨p, p', rfl, rfl, fun e => ?_⟩
          subst e
          rw [r] at r'
          cases r'
          exact absurd hn' (dj d hn)
def rEqTr (w : World) (n : Nat) : R2 := fun x y H Q => ∃ c, DTr w n x y c H ∧ ∀ H', Ext H H' → Q (.bl c) H'
theorem op_eqTr {X : Cx} {n : Nat} (hr : Room (3 * n + 2) X.A) : OpR X (compareOp .Eq) (rEqTr X.w (n + 1)) := by
  intro pins s σ H x y v u Q I rx ry hq
  obtain ⟨c, d, q⟩ := hq
  show wpAny (model X.prog X.w) X.A (richCompare .Eq v u) (EP X pins σ Q) X.xe s
  refine wpAny_mono ((rcGB_one (eqGB_tr n)) X.A pins s σ H x y c v u ⟨hr, rfl⟩ I rx ry d) (fun r s' z => ?_) fun _ _ x => x
  obtain ⟨hr', H', I', e⟩ := z
  subst hr'
  exact ⟨.bl c, H', I', rfl, q H' e⟩
end T5

set_option maxHeartbeats 3900000
namespace T5
open PySem PySem.Spec PyProof.Rows L2 TL
open C8 (pss_cut tCut pe_gc)
open CB XW LE LR
inductive Walks (fs : Fs) (ss : Ss) (z : Str) : Tr → List Sg → Str → Prop
  | fin (x : Str) : Walks fs ss z (.fin x) [] x
  | ask {k : Lk} {a : An} {cs : Cs} {o : Tr} {l : List Sg} {x : Str} (h : Tru fs ss z (k, a)) (r : Walks fs ss z (stepT a cs o) l x) : Walks fs ss z (.ask k cs o) ((k, a) :: l) x
theorem Walks.one {fs : Fs} {ss : Ss} {z : Str} {t : Tr} {l : List Sg} {x : Str} (h : Walks fs ss z t l x) : ∀ {l' : List Sg} {x' : Str}, Walks fs ss z t l' x' → l = l' ∧ x = x' := by
  induction h with
  | fin x => intro l' x' h'; cases h'; exact ⟨rfl, rfl⟩
  | ask h r ih =>
    intro l' x' h'
    cases h' with
    | ask h2 r2 =>
      have e := tru_one h h2
      subst e
      obtain ⟨e1, e2⟩ := ih r2
      exact ⟨by rw [e1], e2⟩
theorem at_snoc {α β : Type} {R : α → β → Prop} {vs : List α} {sg : List β} {x : α} {y : β} (vl : vs.length = sg.length) (hv : ∀ (i : Nat) (v : α) (s : β), vs[i]? = some v → sg[i]? = some s → R v s) (hx : R x y) : ∀ (i : Nat) (v : α) (s : β), (vs ++ [x])[i]? = some v → (sg ++ [y])[i]? = some s → R v s := fun i v s h1 h2 => by
  by_cases lt : i < vs.length
  · rw [List.getElem?_append_left lt] at h1
    rw [List.getElem?_append_left (vl ▸ lt)] at h2
    exact hv i v s h1 h2
  · have l1 := (List.getElem?_eq_some_iff.mp h1).1
    rw [List.length_append] at l1
    have l2 : ([x] : List α).length = 1 := rfl
    obtain rfl : i = vs.length := by omega
    rw [List.getElem?_append_right (Nat.le_refl _), Nat.sub_self] at h1
    rw [vl, List.getElem?_append_right (Nat.le_refl _), Nat.sub_self] at h2
    cases h1
    cases h2
    exact hx
section
variable {P : Program} {w : World} {K : PySem.W.Frag} {mg : Str → Option Value} {base : Heap} {C CR CW CS CA : Addr} {mt : Str → Addr}
end
end T5

set_option maxHeartbeats 3900000
namespace T5
open PySem PySem.Spec PyProof.Rows L2 TL
open C8 (pss_cut tCut pe_gc)
open CB XW LE LR
abbrev sLTree : Stmt := top 41
def dW : Nat → Nat
  | 0 => 25
  | m + 1 => 206 + 4 * dW m
mutual
/-- a drawn tree: its looks and answers are on the pool's names -/
def OnT (zs : List Str) : Tr → Prop
  | .fin z => z ∈ (["good", "bad", "", "no"] : List Str)
  | .ask k cs o => LkOn zs 3 k ∧ cs.length ≤ 3 ∧ OnC zs cs ∧ OnT zs o
def OnC (zs : List Str) : Cs → Prop
  | [] => True
  | (a, t) :: r => AnOn zs a ∧ OnT zs t ∧ OnC zs r
end
theorem onC_snoc {zs : List Str} {a : An} {t : Tr} (ha : AnOn zs a) (ht : OnT zs t) : ∀ {cs : Cs}, OnC zs cs → OnC zs (cs ++ [(a, t)])
  | [], _ => ⟨ha, ht, trivial⟩
  | (_, _) :: _, h => ⟨h.1, h.2.1, onC_snoc ha ht h.2.2⟩
theorem okC_snoc {ab : List Lk} {k : Lk} {a : An} {t : Tr} (ha : SiOk' (k, a)) (ht : OkT (ab ++ [k]) t) : ∀ {cs : Cs}, OkC ab k cs → OkC ab k (cs ++ [(a, t)])
  | [], _ => ⟨ha, ht, trivial⟩
  | (_, _) :: _, h => ⟨h.1, h.2.1, okC_snoc ha ht h.2.2⟩
theorem depC_le {n : Nat} : ∀ {cs : Cs}, (∀ c ∈ cs, dep c.2 ≤ n) → depC cs ≤ n
  | [], _ => Nat.zero_le _
  | (a, t) :: r, h => by
    unfold depC
    exact Nat.max_le.mpr ⟨h (a, t) List.mem_cons_self, depC_le fun c hc => h c (List.mem_cons_of_mem _ hc)⟩
theorem any_an {a : An} (h : AnW a) : ∀ {l : List An}, (∀ t ∈ l, AnW t) → ((l.map anD).any fun z => z.eqv (anD a)) = decide (a ∈ l)
  | [], _ => by simp
  | t :: l, w => by
    rw [List.map_cons, List.any_cons, any_an h fun x hx => w x (List.mem_cons_of_mem t hx), eqv_an (w t List.mem_cons_self) h]
    by_cases e : t = a
    · subst e
      simp
    · have e2 : ¬ a = t := fun z => e z.symm
      simp [e, e2]
theorem lksL_tup {H H' : Hp} {D : Addr} {ks : List Lk} (h : LksL H D ks) (e : ∀ xs, H D = some (.lst xs) → H' D = some (.lst xs)) (t : TupS H H') : LksL H' D ks := by
  obtain ⟨vs, h1, h2, h3⟩ := h
  exact ⟨vs, e _ h1, h2, fun i v k a b => by
    obtain ⟨p, e, q⟩ := h3 i v k a b
    exact ⟨p, e, t _ _ q⟩⟩
theorem cs_zip {H : Hp} : ∀ {ys : List V} {cs : Cs}, CsAt H ys cs → ∃ zs : List (V × V × An), zs.map (·.1) = ys ∧ zs.map (·.2.2) = cs.map (·.1) ∧ ∀ z ∈ zs, ∃ p tv, z.1 = .ref p ∧ H p = some (.tup [z.2.1, tv]) ∧ AnAt H z.2.1 z.2.2
  | _, _, .nil => ⟨[], rfl, rfl, fun z hz => by cases hz⟩
  | _, _, .cons (p := p) (av := av) (tv := tv) (a := a) r ha ht c => by
    obtain ⟨zs, e1, e2, e3⟩ := cs_zip c
    refine ⟨(.ref p, av, a) :: zs, by rw [List.map_cons, e1], by rw [List.map_cons, List.map_cons, e2], fun z hz => ?_⟩
    rcases List.mem_cons.mp hz with rfl | hz
    · exact ⟨p, tv, rfl, r, ha⟩
    · exact e3 z hz
theorem ans_dp {K : PySem.W.Frag} {H : Hp} : ∀ {zs : List (V × V × An)}, (∀ z ∈ zs, AnAt H z.2.1 z.2.2) → DpAll K H (zs.map (·.2.1)) ((zs.map (·.2.2)).map anD)
  | [], _ => .nil
  | z :: r, h => .cons (an_dp (h z List.mem_cons_self)) (ans_dp fun y hy => h y (List.mem_cons_of_mem _ hy))
theorem ans_shaped {l : List An} (h : ∀ a ∈ l, AnW a) : SeqAt.shaped (.list (l.map anD)) = true := by
  have lay : ∀ {l : List An}, (∀ k ∈ l, AnW k) → PyData.canLayAll0 (l.map anD) = true := by
    intro l
    induction l with
    | nil => intro _; simp [PyData.canLayAll0]
    | cons k r ih =>
      intro h
      rw [List.map_cons]
      unfold PyData.canLayAll0
      rw [ih fun x hx => h x (List.mem_cons_of_mem _ hx), anD_lay (h k List.mem_cons_self)]
      rfl
  have dpt : ∀ {l : List An}, (∀ k ∈ l, AnW k) → PyData.depthAll (l.map anD) ≤ 10 := by
    intro l
    induction l with
    | nil => intro _; simp [PyData.depthAll]
    | cons k r ih =>
      intro h
      rw [List.map_cons]
      unfold PyData.depthAll
      have h1 := ih fun x hx => h x (List.mem_cons_of_mem _ hx)
      have h2 := anD_dep k
      omega
  refine shaped_mk (by unfold PyData.canLay0; exact lay h) ?_
  have := dpt h
  unfold PyData.depth
  omega
def spLTree (n : Nat) : Sp := fun vs H Q _ => ∃ (st l p D : Addr) (c : Nat) (zs : List Str) (ab : List Lk) (m : Nat) (vm : V), vs = [.ref st, .ref p, .ref D, vm] ∧ vm = .int (m : Int) ∧ m < n ∧ Strm H st l c ∧ c + dW m ≤ 700000 ∧ Pool H st l p zs ∧ zs.Nodup ∧ 0 < zs.length ∧ zs.length < 20 ∧ (∀ z ∈ zs, IsNm z) ∧ LksL H D ab ∧ D ≠ st ∧ D ≠ l ∧ ab.length + m ≤ 20 ∧ (∀ k ∈ ab, LkW k) ∧
  ∀ v t H' c', TrAt H' v t → OkT ab t → OnT zs t → dep t ≤ m → But st l H H' → Strm H' st l c' → c' ≤ c + dW m → Q v H'
theorem thrice {P R : Hp → Prop} {G : Prop} (main : (∀ H7, R H7 → P H7) → G) (rest : ∀ H7, R H7 → P H7) : G := main rest
section
variable {P : Program} {w : World} {K : PySem.W.Frag} {mg : Str → Option Value} {base : Heap}
theorem scLTree : FnScope ["_law_stream", "_law_pool_here", "_law_looks_here", "_law_most", "_law_look_here", "_law_left", "_law_cases", "_law_k", "_law_answer", "_law_case"] ["_law_stream", "_law_pool_here", "_law_looks_here", "_law_most"] (defScope sLTree) := ⟨rfl, rfl, rfl, by decide +kernel, rfl, by decide +kernel, by decide +kernel⟩
theorem ok_ltree {f fD fL fS : Addr} {fd fdD fdL fdS : FuncData} (F : Fun K "_law_tree" "_law_tree" sLTree f fd) (T : TB mg) (aD : aD' K mg fD fdD) (GD : FnOk P w K mg base CX0 1 fD fdD ["_law_stream", "_law_many"] spDraw)
    (aLooks : At K mg "_law_looks" fL fdL ["_law_stream", "_law_pool_here", "_law_many"]) (GLooks : FnOk P w K mg base CX0 5 fL fdL ["_law_stream", "_law_pool_here", "_law_many"] spLooks)
    (aSo : At K mg "_law_some_answer" fS fdS ["_law_stream", "_law_pool_here", "_law_look_here"]) (GSo : FnOk P w K mg base CX0 3 fS fdS ["_law_stream", "_law_pool_here", "_law_look_here"] spSome)
    (aLTree : At K mg "_law_tree" f fd ["_law_stream", "_law_pool_here", "_law_looks_here", "_law_most"]) : ∀ n, FnOk P w K mg base CX0 (6 + n) f fd ["_law_stream", "_law_pool_here", "_law_looks_here", "_law_most"] (spLTree n) := by
  intro n
  induction n with
  | zero =>
    refine ⟨fun vs H Q E h => ?_, fun A outer s H args us vs Q E hr he hb hv h => ?_⟩
    · obtain ⟨st, l, p, D, c, zs, ab, m, vm, rfl, _⟩ := h
      rfl
    · obtain ⟨st, l, p, D, c, zs, ab, m, vm, _, _, hd, _⟩ := h
      exact absurd hd (Nat.not_lt_zero _)
  | succ n GLTree =>
    refine F.ok scLTree (fun vs H Q E h => ?_) (fun cdv A outer s H vs Q E hr h => ?_)
    · obtain ⟨st, l, p, D, c, zs, ab, m, vm, rfl, _⟩ := h
      rfl
    · obtain ⟨st, l, p, D, c, zs, ab, m, vm, rfl, rfl, mn, S, hc, L, znd, z0, z1, nm, hD, Dst, Dl, al, aw, k⟩ := h
      have hu := hr.units
      have hu0 : (A.deeper (envOfC "_law_tree" (defScope sLTree) s.heap.objs.size f cdv)).units < cLine := by have := hr.un; omega
      have hu5 : (A.deeper (envOfC "_law_tree" (defScope sLTree) s.heap.objs.size f cdv)).units + 65 < cLine := by have := hr.un; omega
      have hu9 : (A.deeper (envOfC "_law_tree" (defScope sLTree) s.heap.objs.size f cdv)).units + 9 < cLine := by have := hr.un; omega
      have hrN : ∀ m, m ≤ 6 + n → Room m (A.deeper (envOfC "_law_tree" (defScope sLTree) s.heap.objs.size f cdv)) := fun m h => hr.mono h
      refine ⟨_, pss_cons (ps_setLc (i := 5) (own := [("_law_look_here", 4)]) (g := gName 4) (tt := _) rfl scLTree.nd rfl rfl (sw_true rfl rfl rfl (by decide +kernel)) (pi_list (pe_call GLooks (hrN _ (by omega)) rfl aLooks.m aLooks.k aLooks.b .nil pass0 (pa_cons (pv 0) (pa_cons (pv 1) (pa_cons pe_int pa_nil))))) (blkOk_by (own := [("_law_look_here", 4)]) (N := ["_law_stream", "_law_pool_here", "_law_looks_here", "_law_most", "_law_look_here", "_law_left", "_law_cases", "_law_k", "_law_answer", "_law_case"]) (sc := defScope sLTree) (by decide +kernel)) (fun _ _ _ _ _ => (pg_name (i := 4) scLTree.nd rfl (Or.inl rfl))) (fun _ _ _ _ _ => (by exact pts_one (pt_cmpR (LE.notInDK (K0 := K) rfl hu5) (pv 4) (pv 2) (by rfl)))) (fun _ _ _ _ _ => (by exact (pv 4))))
              (pss_cons (ps_if (PW.pt (pw_or (pt_cmpR op_eq (pv 3) pe_int (nomark _)) (pw_or (pt_cmpR (EN.op_eqNil hu0) (pv 5) (pe_lst pa_nil) (nomark _)) (pw_or1 (pt_cmpR op_eq (pe_call GD (hrN _ (by omega)) rfl aD.m aD.k aD.b .nil pass0 (pa_cons (pv 0) (pa_cons pe_int pa_nil))) pe_int (nomark _)))))) (pss_one (ps_ret (pe_tup (pa_cons pe_str (pa_cons (pe_ix ix_list (pe_lst (pa_cons pe_str (pa_cons pe_str (pa_cons pe_str (pa_cons pe_str pa_nil))))) (pe_call GD (hrN _ (by omega)) rfl aD.m aD.k aD.b .nil pass0 (pa_cons (pv 0) (pa_cons pe_int pa_nil))) (fun _ _ => rfl)) pa_nil))))) (pss_nil))
              (pss_cons (ps_par (i := 4) (j := 6) (by rfl) scLTree.nd rfl rfl (by decide) rfl rfl (pa_cons (pe_ix ix_list (pv 5) pe_int (fun _ _ => rfl)) (pa_cons (pe_lst pa_nil) pa_nil)) (by rfl))
              (pss_cons (ps_for PassesOwn.never rfl (pi_range1 rfl T.range (pa_cons (pe_call GD (hrN _ (by omega)) rfl aD.m aD.k aD.b .nil pass0 (pa_cons (pv 0) (pa_cons pe_int pa_nil))) pa_nil)) (pg_name (i := 7) scLTree.nd rfl (Or.inl rfl)) (pss_cons (ps_set (i := 8) scLTree.nd rfl (Or.inl rfl) (pe_call GSo (hrN _ (by omega)) rfl aSo.m aSo.k aSo.b .nil pass0 (pa_cons (pv 0) (pa_cons (pv 1) (pa_cons (pv 4) pa_nil)))))
              (pss_one (ps_if (pt_cmpR (op_notInD hu5) (pv 8) (pe_lc (own := [("_law_case", 9)]) (g := gName 9) (tt := tYes) rfl scLTree.nd (pi_list (pv 6)) (blkOk_by (own := [("_law_case", 9)]) (N := ["_law_stream", "_law_pool_here", "_law_looks_here", "_law_most", "_law_look_here", "_law_left", "_law_cases", "_law_k", "_law_answer", "_law_case"]) (sc := defScope sLTree) (by decide +kernel)) (fun _ _ _ _ _ => (pg_name (i := 9) scLTree.nd rfl (Or.inl rfl))) (fun _ _ _ _ _ => pts_nil) (fun _ _ _ _ _ => (by exact (pe_ix (ix_tupK (K0 := K) rfl) (pv 9) pe_int (fun _ _ => rfl))))) (by rfl)) (pss_one (ps_expr (pe_bm PySem.F.plainAttrs_list PySem.F.slot_list_append PySem.F.type_list_append mt_append (pv 6) (pa_cons (pe_tup (pa_cons (pv 8) (pa_cons (pe_call GLTree (hrN _ (by omega)) rfl aLTree.m aLTree.k aLTree.b .nil pass0 (pa_cons (pv 0) (pa_cons (pv 1) (pa_cons (pe_op op_cat (pv 2) (pe_lst (pa_cons (pv 4) pa_nil))) (pa_cons (pe_op op_sub (pv 3) pe_int) pa_nil))))) pa_nil))) pa_nil)))) (pss_nil)))))
              (pss_one (ps_ret (pe_tup (pa_cons pe_str (pa_cons (pv 4) (pa_cons (pe_callTy call_tuple_of (by rfl) T.tuple (by decide +kernel) (pa_cons (pv 6) pa_nil)) (pa_cons (pe_call GLTree (hrN _ (by omega)) rfl aLTree.m aLTree.k aLTree.b .nil pass0 (pa_cons (pv 0) (pa_cons (pv 1) (pa_cons (pe_op op_cat (pv 2) (pe_lst (pa_cons (pv 4) pa_nil))) (pa_cons (pe_op op_sub (pv 3) pe_int) pa_nil))))) pa_nil)))))))))), ?_⟩
      have hW : 25 ≤ dW m := by
        cases m with
        | zero => exact Nat.le_refl _
        | succ m => unfold dW; omega
      refine ⟨_, rfl, _, rfl, st, l, p, c, zs, 4, rfl, S, by omega, L, z0, by omega, nm, by decide, by decide, fun D1 ks H1 c1 kl ko knd hD1 hks B1 S1 hc1 => ?_⟩
      have hc1 : c1 ≤ c + 24 := hc1
      obtain ⟨zk, hz, rfl, ek⟩ := lks_zip hks
      have nD1 := S.ne_new hD1
      have hab1 : LksL H1 D ab := lksL_tup hD (fun xs e => B1 _ _ e Dst Dl) (tup_but S B1)
      have zkl : zk.length ≤ 4 := by rw [List.length_map] at kl; omega
      have kw : ∀ z ∈ zk, LkW z.2 := fun z hz2 => (on_ok (ko _ (List.mem_map_of_mem hz2)) nm).w
      refine ⟨D1, rfl, ⟨_, SqL.of hz⟩, fun L0 hL0 => ?_⟩
      refine lcFM (walk_list (K := K) (a := D1) (xs := zk.map Prod.fst)) zk Prod.fst Prod.fst (fun z => decide (z.2 ∉ ab)) (by rw [List.length_map]) (by rw [List.length_map]; omega) (fun i H x H' y => y) hL0 (fun H' s => SqL.of (s _ _ hz)) ?_ ?_ ?_
      · intro z hz2 H2 s2 Q1 q1
        obtain ⟨t, e1, ht⟩ := ek z hz2
        have hab2 : LksL H2 D ab := lksL_tup hab1 (fun xs e => s2 _ _ e) (TupS.of s2)
        obtain ⟨za, ha1, ha2, ha3⟩ := lks_zip hab2
        have dpD := ks_dp (K := K) ha1 ha3
        rw [ha2] at dpD
        refine ⟨_, rfl, _, rfl, lkD z.2, ab.map lkD, by rw [e1]; exact lk_dp (s2 _ _ ht), dpD, lkD_shaped (kw z hz2), shaped_lks ab aw, ?_⟩
        rw [any_lk (kw z hz2) aw]
        refine ⟨_, rfl, ?_⟩
        have := q1 H2 (Same.refl _)
        by_cases m0 : z.2 ∈ ab
        · simpa [m0] using this
        · simpa [m0] using this
      · intro z hz2 _ H2 s2 Q1 q1
        exact ⟨_, rfl, q1 H2 (Same.refl _)⟩
      · intro H2 s2 hL2
        have B2 : But st l H H2 := B1.trans (But.same s2)
        have S2 := S1.up s2
        have nL0 := S1.ne_new hL0
        apply thrice (R := fun H7 => But st l H H7 ∧ ∃ c7, Strm H7 st l c7 ∧ c7 ≤ c + 24 + (if m = 0 then 0 else 1))
        case main =>
          intro fin
          by_cases m0 : m = 0
          · refine ⟨_, rfl, rfl, _, rfl, iteY (by rw [m0]; rfl) ?_⟩
            exact iteT (fin H2 ⟨B2, c1, S2, by omega⟩)
          · refine ⟨_, rfl, rfl, _, rfl, iteN (fun e => m0 (by cases e; rfl)) ?_⟩
            have hc20 : c1 ≤ c + 24 := hc1
            refine ⟨_, rfl, by show 0 ≤ sizeLine; decide, fun q hq => ⟨L0, q, _, rfl, rfl, SqL.of (same_mk hq _ _ hL2), SqL.of upd_same, _, rfl, ?_⟩⟩
            have sq := same_mk (o := .lst []) hq
            have S3 := S2.up sq
            have B3 : But st l H (upd H2 q (.lst [])) := B2.trans (But.same sq)
            have hL3 := sq _ _ hL2
            cases efl : zk.filter (fun z => decide (z.2 ∉ ab)) with
            | nil => exact iteT (iteT (fin _ ⟨B3, c1, S3, by omega⟩))
            | cons z0 rest =>
            rw [efl] at hL3
            have mz0 : z0 ∈ zk.filter (fun z => decide (z.2 ∉ ab)) := by rw [efl]; exact List.mem_cons_self
            obtain ⟨mz, nz⟩ := List.mem_filter.mp mz0
            have nz := of_decide_eq_true nz
            have lk0 := ko _ (List.mem_map_of_mem mz)
            have lok0 := on_ok lk0 nm
            obtain ⟨kp, e1, hkp⟩ := ek z0 mz
            have hkp3 := sq _ _ (s2 _ _ hkp)
            obtain ⟨zv, k0⟩ := z0
            obtain rfl : zv = .ref kp := e1
            refine iteF ?_
            refine ⟨_, rfl, st, l, c1, 5, rfl, S3, by omega, by decide, by decide, fun d H4 d0 d1 B4 S4 => ⟨rfl, _, rfl, ?_⟩⟩
            have B04 := B3.trans B4
            have nL3 : L0 ≠ st ∧ L0 ≠ l := nL0
            have hL4 := B4 _ _ hL3 nL3.1 nL3.2
            have tb4 := tup_but S3 B4
            have hkp4 := tb4 _ _ hkp3
            by_cases d00 : d = 0
            · exact iteY (by rw [d00]) (fin H4 ⟨B04, c1 + 1, S4, by rw [if_neg m0]; omega⟩)
            refine iteN (fun e => d00 (by cases e; rfl)) ?_
            refine ⟨_, rfl, L0, _, 0, _, rfl, rfl, SqL.of hL4, atI_nat (j := 0) rfl, by show 0 ≤ sizeLine; decide, fun C0 hC0 => ⟨_, _, rfl, ?_⟩⟩
            have sC := same_mk (o := .lst []) hC0
            have nC0 := S4.ne_new hC0
            have S5 := S4.up sC
            have B05 : But st l H (upd H4 C0 (.lst [])) := B04.trans (But.same sC)
            have fC0 : H C0 = none := by
              cases e : H C0 with
              | none => rfl
              | some o =>
                rw [B04 _ _ e nC0.1 nC0.2] at hC0
                cases hC0
            have hkp5 := sC _ _ hkp4
            obtain ⟨m1, rfl⟩ := Nat.exists_eq_succ_of_ne_zero m0
            have eW : dW (m1 + 1) = 206 + 4 * dW m1 := rfl
            have hc := hc
            rw [show m1.succ = m1 + 1 from rfl, eW] at hc
            refine ⟨_, rfl, st, l, c1 + 1, 4, rfl, S5, by omega, by decide, by decide, fun e H6 e0 e1 B6 S6 => ⟨_, rfl, by omega, by omega, ?_⟩⟩
            have hC6 := B6 _ _ (upd_same (H := H4) (a := C0) (o := .lst [])) nC0.1 nC0.2
            have B06 := B05.trans B6
            have hkp6 := tup_but S5 B6 _ _ hkp5
            generalize upd H4 C0 (.lst []) = H5 at B05 S5 hkp5 B6
            refine for_range (lo := 0) (n := e.toNat) (fun i σ H' => ∃ x7 x8 x9 ys cs c7, σ = [some (.ref st), some (.ref p), some (.ref D), some (.int ((m1 + 1 : Nat) : Int)), some (.ref kp), some (.ref L0), some (.ref C0), x7, x8, x9] ∧ But st l H H' ∧ Strm H' st l c7 ∧ c7 ≤ c + 26 + i * (60 + dW m1) ∧ H' C0 = some (.lst ys) ∧ CsAt H' ys cs ∧ cs.length ≤ i ∧ (cs.map (·.1)).Nodup ∧ OkC ab k0 cs ∧ (∀ x ∈ cs, dep x.2 ≤ m1) ∧ OnC zs cs ∧ H' kp = some (.tup (lkV k0)))
              ⟨_, _, _, [], [], c1 + 2, rfl, B06, S6, by omega, hC6, .nil, Nat.zero_le _, .nil, trivial, (fun x hx => absurd hx List.not_mem_nil), trivial, hkp6⟩ ?_ ?_
            · rintro i _ H7 hi ⟨x7, x8, x9, ys, cs, c7, rfl, B7, S7, hc7, hC7, cy, cl, cnd, okc, cdep, onc, hkp7⟩
              have i3 : i < 3 := by omega
              have im : i * (60 + dW m1) ≤ 2 * (60 + dW m1) := Nat.mul_le_mul_right _ (by omega)
              have is : (i + 1) * (60 + dW m1) = i * (60 + dW m1) + (60 + dW m1) := Nat.succ_mul _ _
              refine ⟨_, rfl, _, rfl, _, rfl, st, l, p, kp, c7, zs, k0, rfl, S7, by omega, L.but B7, znd, z0, z1, nm, hkp7, lok0.w, fun av a H8 c8 han aok aon B8 S8 hc8 => ?_⟩
              have tb8 := tup_but S7 B8
              have aw1 := (on_an aon lk0 nm).1
              have hC8 := B8 _ _ hC7 nC0.1 nC0.2
              have cy8 := CsAt.tup tb8 cy
              have hkp8 := tb8 _ _ hkp7
              have B08 := B7.trans B8
              obtain ⟨zc, ec1, ec2, ec3⟩ := cs_zip cy8
              have csw : ∀ t ∈ cs.map (·.1), AnW t := fun t ht => by
                obtain ⟨x, hx, rfl⟩ := List.mem_map.mp ht
                exact (okC_mem okc x hx).1.2.2
              have zcl : zc.length = cs.length := by rw [← List.length_map (f := (·.2.2)) (as := zc), ec2, List.length_map]
              refine ⟨_, rfl, _, rfl, C0, rfl, ⟨_, SqL.of hC8⟩, fun L1 hL1 => ?_⟩
              refine lcFM (walk_list (K := K) (a := C0) (xs := ys)) zc (·.1) (·.2.1) (fun _ => true) (by rw [← ec1, List.length_map]) (by rw [← ec1, List.length_map]; omega) (fun i H x H' y => by rw [ec1]; exact y) hL1 (fun H' s => SqL.of (s _ _ hC8)) (fun z hz2 H9 s9 Q1 q1 => q1 H9 (Same.refl _)) (fun z hz2 _ H9 s9 Q1 q1 => ?_) ?_
              · obtain ⟨pz, tz, e1, hp, _⟩ := ec3 z hz2
                exact ⟨_, rfl, pz, _, 0, _, e1, rfl, SqT.of (s9 _ _ hp), atI_nat (j := 0) rfl, q1 H9 (Same.refl _)⟩
              · intro H9 s9 hL9
                rw [List.filter_eq_self.mpr (fun _ _ => rfl)] at hL9
                have dd : DpAll K H9 (zc.map (·.2.1)) ((cs.map (·.1)).map anD) := by
                  rw [← ec2]
                  refine ans_dp fun z hz2 => ?_
                  obtain ⟨_, _, _, _, h⟩ := ec3 z hz2
                  exact h.up s9
                refine ⟨anD a, _, an_dp (han.up s9), .lst (SqL.of hL9) dd, anD_shaped aw1, ans_shaped csw, ?_⟩
                rw [any_an aw1 csw]
                have B09 := B08.trans (But.same s9)
                have S9 := S8.up s9
                have hC9 := s9 _ _ hC8
                have cy9 := CsAt.up s9 cy8
                have hkp9 := s9 _ _ hkp8
                have han9 := han.up s9
                by_cases ma : a ∈ cs.map (·.1)
                · rw [decide_eq_true ma]
                  exact ⟨_, rfl, iteF ⟨_, _, _, ys, cs, c8, rfl, B09, S9, by omega, hC9, cy9, Nat.le_succ_of_le cl, cnd, okc, cdep, onc, hkp9⟩⟩
                · rw [decide_eq_false ma]
                  refine ⟨_, rfl, iteT ?_⟩
                  refine ⟨_, rfl, .inl ⟨rfl, _, SqL.of hC9⟩, _, rfl, _, rfl, _, rfl, _, rfl, _, rfl, by show 1 ≤ sizeLine; decide, fun q hq => ?_⟩
                  have sq := same_mk (o := .lst [.ref kp]) hq
                  have hDq : LksL (upd H9 q (.lst [.ref kp])) D ab := lksL_tup hD (fun xs e => sq _ _ (B09 _ _ e Dst Dl)) (TupS.trans (tup_but S B09) (TupS.of sq))
                  obtain ⟨vD, hvD, vDl, hvDs⟩ := hDq
                  refine ⟨D, q, vD, [.ref kp], rfl, rfl, hvD, upd_same, Nat.le_trans (show vD.length + 1 ≤ 40 by omega) (by decide), fun pp hpp => ?_⟩
                  have sp := same_mk (o := .lst (vD ++ [.ref kp])) hpp
                  have sqp := sq.trans sp
                  have Sp := S9.up sqp
                  have npp := (S9.up sq).ne_new hpp
                  refine ⟨_, rfl, _, _, rfl, rfl, st, l, p, pp, c8, zs, ab ++ [k0], m1, _, rfl, congrArg V.int (by omega : ((m1 + 1 : Nat) : Int) - 1 = (m1 : Int)), by omega, Sp, by omega, L.but (B09.trans (But.same sqp)), znd, z0, z1, nm, ⟨vD ++ [.ref kp], upd_same, by rw [List.length_append, List.length_append, vDl]; rfl, at_snoc vDl (fun i v k h1 h2 => ?_) ⟨kp, rfl, sqp _ _ hkp9⟩⟩, npp.1, npp.2, by rw [List.length_append]; show ab.length + 1 + m1 ≤ 20; omega, fun x hx => ?_, fun tv t H10 c10 htr tok ton tdep B10 S10 hc10 => ?_⟩
                  · obtain ⟨y, e, h⟩ := hvDs i v k h1 h2
                    exact ⟨y, e, sp _ _ h⟩
                  · rcases List.mem_append.mp hx with hx | hx
                    · exact aw x hx
                    · rw [List.mem_singleton.mp hx]
                      exact lok0.w
                  have tb10 := tup_but Sp B10
                  have B010 := (B09.trans (But.same sqp)).trans B10
                  have hC10 := B10 _ _ (sqp _ _ hC9) nC0.1 nC0.2
                  have cy10 := CsAt.tup tb10 (CsAt.up sqp cy9)
                  have han10 := (han9.up sqp).tup tb10
                  have hkp10 := tb10 _ _ (sqp _ _ hkp9)
                  refine ⟨by show 2 ≤ sizeLine; decide, fun u hu => ?_⟩
                  have su := same_mk (o := .tup [av, tv]) hu
                  have yl : ys.length ≤ 3 := by rw [← ec1, List.length_map]; omega
                  refine ⟨C0, ys, .ref u, rfl, rfl, su _ _ hC10, Nat.lt_of_le_of_lt yl (by decide), ?_⟩
                  have hup := upd_same (H := H10) (a := u) (o := .tup [av, tv])
                  have cyu := CsAt.up su cy10
                  have hanu := han10.up su
                  have htru := htr.up su
                  have Su := S10.up su
                  have B0u := B010.trans (But.same su)
                  have hCu := su _ _ hC10
                  have hkpu := su _ _ hkp10
                  generalize upd H10 u (.tup [av, tv]) = H11 at hup cyu hanu htru Su B0u hCu hkpu ⊢
                  have tb12 : TupS H11 (upd H11 C0 (.lst (ys ++ [.ref u]))) := tupS_put hCu fun xs z => by cases z
                  refine ⟨_, _, _, ys ++ [.ref u], cs ++ [(a, t)], c10, rfl, fun b o hb n1 n2 => ?_, Su.put nC0, by omega, upd_same, csAt_snoc (tb12 _ _ hup) (hanu.tup tb12) (TrAt.tup tb12 htru) (CsAt.tup tb12 cyu), by rw [List.length_append]; exact Nat.succ_le_succ cl, ?_, okC_snoc ⟨⟨lok0, aok⟩, lok0.w, aw1⟩ tok okc, fun x hx => ?_, onC_snoc aon ton onc, tb12 _ _ hkpu⟩
                  · rw [upd_ne fun z => by rw [z, fC0] at hb; cases hb]
                    exact B0u _ _ hb n1 n2
                  · rw [List.map_append]
                    refine List.nodup_append.mpr ⟨cnd, by simp, fun x hx y hy e => ?_⟩
                    have e2 : y = a := List.mem_singleton.mp hy
                    rw [e, e2] at hx
                    exact ma hx
                  · rcases List.mem_append.mp hx with hx | hx
                    · exact cdep x hx
                    · rw [List.mem_singleton.mp hx]
                      exact tdep
            · rintro _ H7 ⟨x7, x8, x9, ys, cs, c7, rfl, B7, S7, hc7, hC7, cy, cl, cnd, okc, cdep, onc, hkp7⟩
              have e3 : e.toNat ≤ 3 := by omega
              have im : e.toNat * (60 + dW m1) ≤ 3 * (60 + dW m1) := Nat.mul_le_mul_right _ e3
              have yl : ys.length = cs.length := (csAt_at cy).1
              refine ⟨_, rfl, _, rfl, C0, ys, rfl, .inl ⟨SqL.of hC7, fun tp htp => ?_⟩⟩
              have st1 := same_mk (o := .tup ys) htp
              refine ⟨_, rfl, _, rfl, _, rfl, _, rfl, by show 1 ≤ sizeLine; decide, fun q hq => ?_⟩
              have sq := same_mk (o := .lst [.ref kp]) hq
              have s1q := st1.trans sq
              have B0q := B7.trans (But.same s1q)
              have hDq := lksL_tup hD (fun xs e => B0q _ _ e Dst Dl) (tup_but S B0q)
              obtain ⟨vD, hvD, vDl, hvDs⟩ := hDq
              refine ⟨D, q, vD, [.ref kp], rfl, rfl, hvD, upd_same, Nat.le_trans (show vD.length + 1 ≤ 40 by omega) (by decide), fun pp hpp => ?_⟩
              have sp := same_mk (o := .lst (vD ++ [.ref kp])) hpp
              have sqp := s1q.trans sp
              have Sp := S7.up sqp
              have npp := (S7.up s1q).ne_new hpp
              refine ⟨_, rfl, _, _, rfl, rfl, st, l, p, pp, c7, zs, ab ++ [k0], m1, _, rfl, congrArg V.int (by omega : ((m1 + 1 : Nat) : Int) - 1 = (m1 : Int)), by omega, Sp, by omega, L.but (B7.trans (But.same sqp)), znd, z0, z1, nm, ⟨vD ++ [.ref kp], upd_same, by rw [List.length_append, List.length_append, vDl]; rfl, at_snoc vDl (fun i v k h1 h2 => ?_) ⟨kp, rfl, sqp _ _ hkp7⟩⟩, npp.1, npp.2, by rw [List.length_append]; show ab.length + 1 + m1 ≤ 20; omega, fun x hx => ?_, fun ov t H10 c10 htr tok ton tdep B10 S10 hc10 => ?_⟩
              · obtain ⟨y, e, h⟩ := hvDs i v k h1 h2
                exact ⟨y, e, sp _ _ h⟩
              · rcases List.mem_append.mp hx with hx | hx
                · exact aw x hx
                · rw [List.mem_singleton.mp hx]
                  exact lok0.w
              have tb10 := tup_but Sp B10
              have cy10 := CsAt.tup tb10 (CsAt.up sqp cy)
              have hkp10 := tb10 _ _ (sqp _ _ hkp7)
              have htp10 := tb10 _ _ ((sq.trans sp) _ _ (upd_same (H := H7) (a := tp) (o := .tup ys)))
              refine ⟨by show 4 ≤ sizeLine; decide, fun u hu => ?_⟩
              have su := same_mk (o := .tup [.str "ask", .ref kp, .ref tp, ov]) hu
              refine k (.ref u) (.ask k0 cs t) _ c10 (.ask upd_same (su _ _ hkp10) (su _ _ htp10) (CsAt.up su cy10) (htr.up su)) ⟨lok0, nz, cnd, by omega, okc, tok⟩ ⟨lk0, by omega, onc, ton⟩ ?_ (((B7.trans (But.same sqp)).trans B10).trans (But.same su)) (S10.up su) ?_
              · show max (depC cs) (dep t) + 1 ≤ m1 + 1
                have := depC_le cdep
                omega
              · show c10 ≤ c + dW (m1 + 1)
                omega
        case rest =>
          rintro H7 ⟨B7, c7, S7, hc7⟩
          have h25 : c7 ≤ c + 25 := by split at hc7 <;> omega
          refine ⟨by show 4 ≤ sizeLine; decide, fun q hq => ?_⟩
          have sq := same_mk (o := .lst [.str "good", .str "bad", .str "", .str "no"]) hq
          have nq := S7.ne_new hq
          refine ⟨_, rfl, st, l, c7, 4, rfl, S7.up sq, by omega, by decide, by decide, fun d H8 d0 d1 B8 S8 => ?_⟩
          obtain ⟨j, rfl⟩ := Int.eq_ofNat_of_zero_le d0
          have hz : ∃ z : Str, z ∈ (["good", "bad", "", "no"] : List Str) ∧ ([.str "good", .str "bad", .str "", .str "no"] : List V)[j]? = some (.str z) := by
            match j, d1 with
            | 0, _ => exact ⟨_, by simp, rfl⟩
            | 1, _ => exact ⟨_, by simp, rfl⟩
            | 2, _ => exact ⟨_, by simp, rfl⟩
            | 3, _ => exact ⟨_, by simp, rfl⟩
            | j + 4, h => omega
          obtain ⟨z, mz, hj⟩ := hz
          refine ⟨q, _, _, _, rfl, rfl, SqL.of (B8 _ _ upd_same nq.1 nq.2), atI_nat hj, by show 2 ≤ sizeLine; decide, fun u hu => ?_⟩
          have su := same_mk (o := .tup [.str "end", .str z]) hu
          refine k (.ref u) (.fin z) _ (c7 + 1) (.fin upd_same) trivial mz (Nat.zero_le _) (B7.trans ((But.same sq).trans (B8.trans (But.same su)))) (S8.up su) ?_
          by_cases m0 : m = 0
          · rw [if_pos m0] at hc7
            omega
          · rw [if_neg m0] at hc7
            obtain ⟨m1, rfl⟩ := Nat.exists_eq_succ_of_ne_zero m0
            have : dW (m1 + 1) = 206 + 4 * dW m1 := rfl
            show c7 + 1 ≤ c + dW (m1 + 1)
            omega
end
end T5

set_option maxHeartbeats 3900000
namespace LW
open PySem PySem.Spec PyProof.Rows L2 TL
open C8 (pss_cut tCut pe_gc)
open CB
section
variable {J : It} {n : Nat} {G : Hp → Prop} {Y : Nat → Hp → V → Hp → Prop} {i j : Nat} {te : TE} {σ : L2.St} {H1 : Hp} {D : Addr} {Qd : Hp → Prop} {K : PySem.W.Frag}
theorem lcWT (w : Walk J n G Y) (hij : i ≠ j) (ys : List V) (hn : ys.length = n) (hs : n < 1000000) (hD : H1 D = none) (hG : ∀ H', Same H1 H' → G H')
    (turn : ∀ (m : Nat) (x y : V) (H2 H3 : Hp), ys[m]? = some y → Same H1 H2 → Y m H2 x H3 → H3 = H2 ∧ ∃ a b t, x = .ref t ∧ H2 t = some (.tup [a, b]) ∧ ∀ Q1 : VK, (∀ H4, Same H2 H4 → Q1 y H4) → te (((wipe σ [i, j]).set i (some a)).set j (some b)) H2 Q1)
    (hd : ∀ H', Same H1 H' → H' D = some (.lst ys) → Qd H') :
    ∃ W : Nat → Nat → Hp → Prop, (∃ m, W 0 m (upd H1 D (.lst []))) ∧ ∀ k m H, W k m H →
      (J.stop k H ∧ Qd H) ∨ (J.go k H ∧ ∃ Nx : Hp → Prop, (∀ H', Nx H' → ∃ m', m' < m ∧ W (k + 1) m' H') ∧ ∀ x H', J.yld k H x H' → gTup K 2 (gCons (gName i) (gCons (gName j) gNil)) x (wipe σ [i, j]) H' fun σ2 H2 => wipe σ2 [i, j] = wipe σ [i, j] ∧ tYes σ2 H2 fun b H3 =>
        if b = true then te σ2 H3 fun y H4 => ∃ acc, H4 D = some (.lst acc) ∧ acc.length < sizeLine ∧ Nx (upd H4 D (.lst (acc ++ [y]))) else Nx H3) := by
  subst hn
  refine lc_it w (fun i H' => Same H1 H' ∧ H' D = some (.lst (ys.take i))) ⟨same_mk hD, upd_same⟩ (fun i H' _ q => hG H' q.1) ?_ ?_
  · rintro m x H2 H3 hi ⟨s2, hd2⟩ y0
    have hy : ys[m]? = some ys[m] := List.getElem?_eq_getElem hi
    obtain ⟨rfl, a, b, t, rfl, ht, tn⟩ := turn m x ys[m] H2 H3 hy s2 y0
    refine ⟨t, _, rfl, SqT.of ht, rfl, a, _, rfl, b, _, rfl, rfl, wipe2 hij a b, ?_⟩
    refine tn _ fun H4 s4 => ⟨_, s4 _ _ hd2, ?_, same_ch (s2.trans s4) hD, ?_⟩
    · rw [List.length_take]
      exact Nat.lt_of_lt_of_le (show min m ys.length < 1000000 by omega) (by decide)
    · rw [upd_same, List.take_succ, hy]
      rfl
  · rintro H' ⟨s, h⟩
    rw [List.take_length] at h
    exact hd H' s h
end
end LW

set_option maxHeartbeats 3900000
namespace LW2
open PySem PySem.Spec PyProof.Rows L2 TL
open C8 (pss_cut tCut pe_gc)
open CB
section
variable {α : Type} {J : It} {n : Nat} {G : Hp → Prop} {Y : Nat → Hp → V → Hp → Prop} {i j : Nat} {tt : TT} {te : TE} {σ : L2.St} {H1 : Hp} {D : Addr} {Qd : Hp → Prop} {K : PySem.W.Frag}
end
end LW2

set_option maxHeartbeats 3900000
namespace T5
open PySem PySem.Spec PyProof.Rows L2 TL
open C8 (pss_cut tCut pe_gc)
open CB XW LE LR
structure Cz where
  row : Addr
  av : V
  tv : V
  an : An
  tr : Tr
theorem cs_zip2 {H : Hp} : ∀ {ys : List V} {cs : Cs}, CsAt H ys cs → ∃ zs : List Cz, (zs.map fun z => V.ref z.row) = ys ∧ (zs.map fun z => (z.an, z.tr)) = cs ∧ ∀ z ∈ zs, H z.row = some (.tup [z.av, z.tv]) ∧ AnAt H z.av z.an ∧ TrAt H z.tv z.tr
  | _, _, .nil => ⟨[], rfl, rfl, fun z hz => by cases hz⟩
  | _, _, .cons (p := p) (av := av) (tv := tv) (a := a) (t := t) r ha ht c => by
    obtain ⟨zs, e1, e2, e3⟩ := cs_zip2 c
    refine ⟨⟨p, av, tv, a, t⟩ :: zs, by rw [List.map_cons, e1], by rw [List.map_cons, e2], fun z hz => ?_⟩
    rcases List.mem_cons.mp hz with rfl | hz
    · exact ⟨r, ha, ht⟩
    · exact e3 z hz
section
variable {P : Program} {w : World} {K : PySem.W.Frag} {mg : Str → Option Value} {base : Heap}
theorem onC_mem {zs : List Str} : ∀ {cs : Cs}, OnC zs cs → ∀ c ∈ cs, AnOn zs c.1 ∧ OnT zs c.2
  | (a, t) :: r, h, c, hc => by
    rcases List.mem_cons.mp hc with rfl | hc
    · exact ⟨h.1, h.2.1⟩
    · exact onC_mem h.2.2 c hc
end
end T5

set_option maxHeartbeats 3900000
namespace SX
open PySem PySem.Spec PyProof.Rows L2 PpSet
section
variable {P : Program} {w : World} {A : Around} {E : Value → Shared → Prop} {s : Shared}
end
end SX

set_option maxHeartbeats 3900000
namespace T5
open PySem PySem.Spec PyProof.Rows L2 TL RP
open CB
inductive Ch
  | put (p : List Str) (t : Str)
  | drop (p : List Str)
  | set (n : Str) (t : Option Str)
  | tool (t : Str)
structure St0 where
  f : List Str → Option Str
  s : Str → Option Str
  z : Str
def St0.do (a : St0) : Ch → St0
  | .put p t => ⟨fun q => if q = p then some t else a.f q, a.s, a.z⟩
  | .drop p => ⟨fun q => if q = p then none else a.f q, a.s, a.z⟩
  | .set n t => ⟨a.f, fun q => if q = n then t else a.s q, a.z⟩
  | .tool t => ⟨a.f, a.s, t⟩
end T5

set_option maxHeartbeats 3900000
namespace T5
open PySem PySem.Spec PyProof.Rows L2 TL
open C8 (pss_cut tCut pe_gc)
open CB XW LE LR
section
variable {P : Program} {w : World} {K : PySem.W.Frag} {mg : Str → Option Value} {base : Heap}
end
end T5

set_option maxHeartbeats 3900000
namespace STP
open PySem PySem.Spec PyProof.Rows L2
open C8 (pss_cut tCut pe_gc)
def Step (X : Cx) (st : Stmt) (A B : L2.St → Hp → Prop) : Prop := ∃ t, PS X st t ∧ ∀ (D : Ends) σ H, A σ H → (∀ σ' H', B σ' H' → D.nx σ' H') → t D σ H
def Steps (X : Cx) (ss : List Stmt) (A B : L2.St → Hp → Prop) : Prop := ∃ t, PSs X ss t ∧ ∀ (D : Ends) σ H, A σ H → (∀ σ' H', B σ' H' → D.nx σ' H') → t D σ H
theorem steps_cons {X : Cx} {st : Stmt} {ss : List Stmt} {A B C : L2.St → Hp → Prop} (h : Step X st A B) (r : Steps X ss B C) : Steps X (st :: ss) A C := by
  obtain ⟨t, p, q⟩ := h
  obtain ⟨u, p2, q2⟩ := r
  exact ⟨_, pss_cut p p2, fun D σ H a k => ⟨B, q _ σ H a fun _ _ b => b, fun σ' H' b => q2 D σ' H' b k⟩⟩
theorem steps_one {X : Cx} {st : Stmt} {A B : L2.St → Hp → Prop} (h : Step X st A B) : Steps X [st] A B := by
  obtain ⟨t, p, q⟩ := h
  exact ⟨_, pss_one p, fun D σ H a k => q D σ H a k⟩
def tW (X : Cx) (ss : List Stmt) : TS := fun D σ H => ∀ (pins : List (Addr × Obj)) (s : Shared), Inv X pins σ H s → wpAny (model X.prog X.w) X.A (execs ss X.env) (SP X pins D) X.xe s
theorem psW {X : Cx} {ss : List Stmt} : PSs X ss (tW X ss) := ⟨fun pins s σ H D I h => h pins s I⟩
theorem Steps.wish {X : Cx} {ss : List Stmt} {A B : L2.St → Hp → Prop} (h : Steps X ss A B) {D : Ends} {σ : L2.St} {H : Hp} (a : A σ H) (k : ∀ σ' H', B σ' H' → D.nx σ' H') : tW X ss D σ H := by
  obtain ⟨t, p, q⟩ := h
  exact fun pins s I => p.run pins s σ H D I (q D σ H a k)
def forBody : Stmt → List Stmt
  | .For _ _ b _ _ => b
  | _ => []
abbrev nth (ss : List Stmt) (i : Nat) : Stmt := ss.getD i (.Pass ⟨0, 0, 0, 0⟩)
end STP

set_option maxHeartbeats 3900000
namespace T5
open PySem PySem.Spec PyProof.Rows L2 TL
open C8 (pss_cut tCut pe_gc)
open STP CB XW LE LR RP FI
structure PlO (H : Hp) (st l p : Addr) (zs : List Str) : Prop where
  L : Pool H st l p zs
  nd : zs.Nodup
  z1 : 1 < zs.length
  z3 : zs.length ≤ 3
  nm : ∀ y ∈ zs, IsNm y
theorem PlO.but {H H' : Hp} {st l p : Addr} {zs : List Str} (h : PlO H st l p zs) (B : But st l H H') : PlO H' st l p zs := ⟨h.L.but B, h.nd, h.z1, h.z3, h.nm⟩
theorem on_sh {zs : List Str} {k : Lk} (h : LkOn zs 3 k) : ShN 3 k := by
  cases k with
  | rd p => exact h.2.1
  | ls p => exact h.1
  | se n => trivial
  | tl => trivial
inductive FineAll (dep : Nat) : List PyData → Nat → Prop
  | nil : FineAll dep [] 0
  | cons {d : PyData} {ds : List PyData} {n m : Nat} (h : Fine d dep n) (r : FineAll dep ds m) : FineAll dep (d :: ds) (n + 2 + m)
theorem FineAll.sh {dep m : Nat} {ds : List PyData} (h : FineAll dep ds m) : PyData.showableAll ds = true ∧ PyData.depthAll ds ≤ dep ∧ piled (PyData.shownAll ds) ≤ m := by
  induction h with
  | nil => exact ⟨by simp [PyData.showableAll], by simp [PyData.depthAll], by simp only [PyData.shownAll]; rw [piled_nil]; exact Nat.le_refl _⟩
  | cons h r ih =>
    obtain ⟨h1, h2, h3⟩ := ih
    refine ⟨by simp [PyData.showableAll, h.sh, h1], ?_, ?_⟩
    · have := h.dp
      simp only [PyData.depthAll]
      omega
    · have := h.sz
      simp only [PyData.shownAll]
      rw [piled_cons]
      omega
theorem FineAll.tup {dep m n : Nat} {ds : List PyData} (h : FineAll dep ds m) (hn : 3 + m ≤ n) : Fine (.tuple ds) (dep + 1) n := by
  obtain ⟨h1, h2, h3⟩ := h.sh
  refine ⟨by simp only [PyData.showable]; exact h1, by simp only [PyData.depth]; omega, ?_⟩
  simp only [PyData.shown]
  unfold tupleText
  rw [strLen_append, strLen_append]
  have e1 : ((("(" : String) : Str)).length = 1 := rfl
  have e3 : (((if (PyData.shownAll ds).length == 1 then ",)" else ")" : String) : Str)).length ≤ 2 := by
    by_cases q : ((PyData.shownAll ds).length == 1) = true
    · rw [if_pos q]
      exact Nat.le_refl _
    · rw [if_neg q]
      exact Nat.le_succ _
  by_cases e : PyData.shownAll ds = []
  · rw [e] at e3 ⊢
    have e4 : ((Str.ofString ", ").join ([] : List Str)).length = 0 := by decide +kernel
    rw [e1, e4]
    omega
  · have j := join_length_add (PyData.shownAll ds) e
    rw [e1]
    omega
mutual
def trD : Tr → PyData
  | .fin z => .tuple [.str "end", .str z]
  | .ask k cs o => .tuple [.str "ask", lkD k, .tuple (csD cs), trD o]
def csD : Cs → List PyData
  | [] => []
  | (a, t) :: r => .tuple [anD a, trD t] :: csD r
end
theorem lk_dqt {K : PySem.W.Frag} {H : Hp} {u : Addr} {k : Lk} (h : H u = some (.tup (lkV k))) : Dq K H (.ref u) (lkD k) := by
  rw [lkV_S] at h
  exact .tup h (dq_strs (lkS k))
theorem ents_dqt {K : PySem.W.Frag} {H : Hp} : ∀ l : List (Str × Bool), DqAll K H (l.map entV) ((l.map fun e => ent e.1 e.2).map PyData.str)
  | [] => .nil
  | e :: r => .cons (.str _) (ents_dqt r)
theorem an_dqt {K : PySem.W.Frag} {H : Hp} {v : V} {a : An} (h : AnAt H v a) : Dq K H v (anD a) := by
  cases a with
  | no => cases (show v = .non from h); exact .non
  | tx z => cases (show v = .str z from h); exact .str z
  | es l =>
    obtain ⟨p, rfl, hp⟩ := h
    exact .tup hp (ents_dqt l)
mutual
theorem tr_dq {K : PySem.W.Frag} {H : Hp} : ∀ {v : V} {t : Tr}, TrAt H v t → Dq K H v (trD t)
  | _, _, .fin (z := z) r => by
    unfold trD
    exact .tup r (.cons (.str _) (.cons (.str _) .nil))
  | _, _, .ask r rk rc c t => by
    unfold trD
    exact .tup r (.cons (.str _) (.cons (lk_dqt rk) (.cons (.tup rc (cs_dq c)) (.cons (tr_dq t) .nil))))
theorem cs_dq {K : PySem.W.Frag} {H : Hp} : ∀ {v : List V} {t : Cs}, CsAt H v t → DqAll K H v (csD t)
  | _, _, .nil => by unfold csD; exact .nil
  | _, _, .cons r ha ht c => by
    unfold csD
    exact .cons (.tup r (.cons (an_dqt ha) (.cons (tr_dq ht) .nil))) (cs_dq c)
end
def bT : Nat → Nat
  | 0 => 200
  | d + 1 => 4 * bT d + 8000
theorem an_fine {k : Lk} {a : An} (d : Dn (k, a)) : Fine (anD a) 1 1900 := by
  cases a with
  | no => exact fine_non.up (by decide) (by decide)
  | tx z =>
    have oz : PyData.strOk z = true := d.ok.2.2
    refine (fine_str (n := 20) (fun c hc => ?_) d.an).up (by decide) (by decide)
    have := Array.all_eq_true_iff_forall_mem.mp oz c (Array.mem_toList_iff.mp hc)
    have := of_decide_eq_true this
    omega
  | es l =>
    refine fine_any (ents_fine d.ok.2.2.1) ?_ (Nat.le_refl 1) (.inl rfl)
    have : l.length ≤ 20 := d.sz.2
    rw [List.length_map, List.length_map]
    omega
theorem fine_word {z : Str} (h : z ∈ (["ask", "end", "good", "bad", "", "no"] : List Str)) : Fine (.str z) 0 42 := by
  refine fine_str (n := 4) ?_ ?_
  · have : (["ask", "end", "good", "bad", "", "no"] : List Str).all fun z => (tl z).all fun c => decide (c < 16 ^ 8) := by decide +kernel
    intro c hc
    exact of_decide_eq_true (List.all_eq_true.mp (List.all_eq_true.mp this z h) c hc)
  · have : (["ask", "end", "good", "bad", "", "no"] : List Str).all fun z => decide (z.length ≤ 4) := by decide +kernel
    exact of_decide_eq_true (List.all_eq_true.mp this z h)
mutual
theorem tr_fine {zs : List Str} (nm : ∀ y ∈ zs, IsNm y) : ∀ (t : Tr) (d : Nat) (ab : List Lk), OnT zs t → OkT ab t → dep t ≤ d → Fine (trD t) (3 * d + 1) (bT d)
  | .fin z, d, ab, on, _, _ => by
    unfold trD
    have h1 : 200 ≤ bT d := by
      cases d with
      | zero => exact Nat.le_refl _
      | succ d => unfold bT; omega
    have mz : z ∈ (["ask", "end", "good", "bad", "", "no"] : List Str) := List.mem_cons_of_mem _ (List.mem_cons_of_mem _ on)
    exact (FineAll.tup (.cons (fine_word (by simp)) (.cons (fine_word mz) .nil)) (by show 3 + (42 + 2 + (42 + 2 + 0)) ≤ 200; decide)).up (by omega) h1
  | .ask k cs o, 0, ab, _, _, h => by
    have h2 : dep (Tr.ask k cs o) = max (depC cs) (dep o) + 1 := by simp [dep]
    omega
  | .ask k cs o, d + 1, ab, on, ok, h => by
    unfold trD
    have h2 : dep (Tr.ask k cs o) = max (depC cs) (dep o) + 1 := by simp [dep]
    obtain ⟨on1, on2, on3, on4⟩ := on
    obtain ⟨k1, k2, k3, k4, k5, k6⟩ := ok
    have f1 : Fine (lkD k) 1 1900 := fine_any (lkS_fine k1 (on_sh on1)) (by have := lkS_len k; omega) (Nat.le_refl 1) (.inl rfl)
    obtain ⟨m, hm, fc⟩ := cs_fine nm cs d ab k on1 on3 k5 (by omega)
    have fo := tr_fine nm o d (ab ++ [k]) on4 k6 (by omega)
    have fcs : Fine (.tuple (csD cs)) (3 * d + 3) (3 + m) := FineAll.tup fc (Nat.le_refl _)
    have ml : m ≤ 3 * (1909 + bT d) := Nat.le_trans hm (Nat.mul_le_mul_right _ on2)
    refine (FineAll.tup (dep := 3 * d + 3) (.cons ((fine_word (by simp)).up (Nat.zero_le _) (Nat.le_refl _)) (.cons (f1.up (by omega) (Nat.le_refl _)) (.cons fcs (.cons (fo.up (by omega) (Nat.le_refl _)) .nil)))) ?_).up (by omega) (Nat.le_refl _)
    show _ ≤ 4 * bT d + 8000
    omega
theorem cs_fine {zs : List Str} (nm : ∀ y ∈ zs, IsNm y) : ∀ (cs : Cs) (d : Nat) (ab : List Lk) (k : Lk), LkOn zs 3 k → OnC zs cs → OkC ab k cs → depC cs ≤ d → ∃ m, m ≤ cs.length * (1909 + bT d) ∧ FineAll (3 * d + 2) (csD cs) m
  | [], d, ab, k, _, _, _, _ => ⟨0, Nat.zero_le _, by unfold csD; exact .nil⟩
  | (a, t) :: r, d, ab, k, onk, on, ok, h => by
    unfold csD
    have h1 : depC ((a, t) :: r) = max (dep t) (depC r) := by simp [depC]
    obtain ⟨m, hm, fc⟩ := cs_fine nm r d ab k onk on.2.2 ok.2.2 (by omega)
    have ft := tr_fine nm t d (ab ++ [k]) on.2.1 ok.2.1 (by omega)
    obtain ⟨_, as, sz⟩ := on_an on.1 onk nm
    have fa := an_fine ⟨ok.1, sz, as, on_sh onk⟩
    refine ⟨_, ?_, .cons (FineAll.tup (dep := 3 * d + 1) (.cons (fa.up (by omega) (Nat.le_refl _)) (.cons ft .nil)) (Nat.le_refl _)) fc⟩
    rw [List.length_cons, Nat.succ_mul]
    omega
end
end T5

set_option maxHeartbeats 3900000
namespace T5
open PySem PySem.Spec PyProof.Rows L2 TL
open C8 (pss_cut tCut pe_gc)
open CB XW LE LR
abbrev sTEq : Stmt := inClass (top 28) 4
abbrev sTLooks : Stmt := inClass (top 28) 2
def StN (w : World) (C : Addr) (N : Addr → Prop) (H : Hp) (o : Addr) (t : Tr) : Prop := ∃ dx u v, H o = some (.ins C dx [(("top" : Str), u), ("choices", v)]) ∧ TrAt H u t ∧ UAt w N H v t ∧ OkT [] t
theorem StN.up {w : World} {C : Addr} {N : Addr → Prop} {H H' : Hp} {o : Addr} {t : Tr} (h : StN w C N H o t) (s : Same H H') : StN w C N H' o t := by
  obtain ⟨dx, u, v, h1, h2, h3, h4⟩ := h
  exact ⟨dx, u, v, s _ _ h1, h2.up s, h3.up s, h4⟩
theorem StN.but {w : World} {C : Addr} {N : Addr → Prop} {H H' : Hp} {st l : Addr} {c : Nat} {o : Addr} {t : Tr} (h : StN w C N H o t) (S : Strm H st l c) (B : But st l H H') : StN w C N H' o t := by
  obtain ⟨dx, u, v, h1, h2, h3, h4⟩ := h
  obtain ⟨ns, x, m, ⟨g1, g2⟩, _⟩ := id S.ex
  exact ⟨dx, u, v, B _ _ h1 (ne_of h1 g1 fun z => by cases z) (ne_of h1 g2 fun z => by cases z), TrAt.tup (tup_but S B) h2, UAt.go (tup_but S B) (dkeep_but S B) (fun _ x => x) h3, h4⟩
def spTIniN (w : World) (C : Addr) (n : Nat) : Sp := fun vs H Q _ => ∃ o dx v t, vs = [.ref o, v] ∧ H o = some (.ins C dx []) ∧ TrIn H v t ∧ dep t < n ∧ n ≤ 40 ∧ OkT [] t ∧ ∀ H', ButO o H H' → StN w C (fun b => H b = none) H' o t → Q .non H'
def spTTreeN (w : World) (C : Addr) : Sp := fun vs H Q _ => ∃ o t N, vs = [.ref o] ∧ StN w C N H o t ∧ ∀ v, TrAt H v t → Q v H
def spTEqB (w : World) (C : Addr) : Sp := fun vs H Q _ => ∃ o o2 t t2 N N2, vs = [.ref o, .ref o2] ∧ StN w C N H o t ∧ StN w C N2 H o2 t2 ∧ (∀ b, N b → ¬ N2 b) ∧ dep t ≤ 4 ∧ ∀ H', Ext H H' → Q (.bl (sameT t t2)) H'
def spTEqO (K : PySem.W.Frag) (w : World) (C : Addr) : Sp := fun vs H Q _ => ∃ o y t N ty, vs = [.ref o, y] ∧ StN w C N H o t ∧ TyX K H y ty ∧ PySem.W.kitOne K ty (.ref C) = some false ∧ Q (.bl false) H
section
variable {P : Program} {w : World} {K : PySem.W.Frag} {mg : Str → Option Value} {base : Heap} {C : Addr} {mt : Str → Addr}
theorem scTEq : FnScope ["self", "other"] ["self", "other"] (defScope sTEq) := ⟨rfl, rfl, rfl, by decide +kernel, rfl, by decide +kernel, by decide +kernel⟩
theorem ok_teqB {f : Addr} {fd : FuncData} (F : Fun K "__eq__" "Step.__eq__" sTEq f fd) (T : TB mg) (S0 : TCl K mg C mt) (IS : ClIs K C) : FnOk P w K mg base CX0 20 f fd ["self", "other"] (spTEqB w C) := by
  refine F.ok scTEq (fun vs H Q E h => ?_) (fun cdv A outer s H vs Q E hr h => ?_)
  · obtain ⟨o, o2, t, t2, N, N2, rfl, _⟩ := h
    rfl
  · obtain ⟨o, o2, t, t2, N, N2, rfl, ⟨dx, u, v, h1, h2, h3, h4⟩, ⟨dx', u', v', g1, g2, g3, g4⟩, dj, dp, k⟩ := h
    have hu := hr.units
    refine ⟨_, pss_one (ps_ret (pe_and (pe_callB call_isi (by rfl) T.isinstance (by decide +kernel) (pa_cons (pv 1) (pa_cons (pe_glob (v := .ref C) rfl S0.mg rfl) pa_nil))) (pe_one (pe_cmpR (op_eqTr (n := 4) (hr.mono (by decide))) (pe_fld (pv 0) rfl) (pe_fld (pv 1) rfl) (nomark _))))), ?_⟩
    refine ⟨_, rfl, _, _, .ref C, .ref C, true, rfl, .own C, .base (.ins g1 S0.cl IS.ha IS.hn IS.ht IS.hm), IS.kC, ?_⟩
    refine ⟨_, rfl, iteT ?_⟩
    refine ⟨_, rfl, o, C, dx, _, _, rfl, h1, S0.cl, S0.n2, lk_t2 _ _, _, rfl, o2, C, dx', _, _, rfl, g1, S0.cl, S0.n2, lk_t2 _ _, sameT t t2, ⟨t, t2, N, N2, [], [], h3.uf, g3.uf, dj, h4, g4, by omega, rfl⟩, fun H' e => k H' e⟩
theorem ok_teqO {f : Addr} {fd : FuncData} (F : Fun K "__eq__" "Step.__eq__" sTEq f fd) (T : TB mg) (S0 : TCl K mg C mt) : FnOk P w K mg base CX0 20 f fd ["self", "other"] (spTEqO K w C) := by
  refine F.ok scTEq (fun vs H Q E h => ?_) (fun cdv A outer s H vs Q E hr h => ?_)
  · obtain ⟨o, y, t, N, ty, rfl, _⟩ := h
    rfl
  · obtain ⟨o, y, t, N, ty, rfl, st, hy, hk, k⟩ := h
    have hu := hr.units
    refine ⟨_, pss_one (ps_ret (pe_and (pe_callB call_isi (by rfl) T.isinstance (by decide +kernel) (pa_cons (pv 1) (pa_cons (pe_glob (v := .ref C) rfl S0.mg rfl) pa_nil))) (pe_one (pe_cmpR (op_eqD hu) (pe_fld (pv 0) rfl) (pe_fld (pv 1) rfl) (nomark _))))), ?_⟩
    exact ⟨_, rfl, _, _, ty, .ref C, false, rfl, .own C, hy, hk, ⟨_, rfl, iteF k⟩⟩
theorem ok_tiniN {n : Nat} {f fPT fUn : Addr} {fd fdPT fdUn : FuncData} (F : Fun K "__init__" "Step.__init__" sTIni f fd) (T : TB mg) (S0 : TCl K mg C mt) (aPT : At K mg "plain_tree" fPT fdPT ["thing", "place", "above"]) (GPT : FnOk P w K mg base CX0 (7 + n) fPT fdPT ["thing", "place", "above"] (spPT n)) (aUn : At K mg "unordered" fUn fdUn ["tree"]) (GUn : FnOk P w K mg base CX0 n fUn fdUn ["tree"] (spUn w n)) : FnOk P w K mg base CX0 (7 + n + 1) f fd ["self", "tree"] (spTIniN w C n) := by
  refine F.ok scTIni (fun vs H Q E h => ?_) (fun cdv A outer s H vs Q E hr h => ?_)
  · obtain ⟨o, dx, v, t, rfl, _⟩ := h
    rfl
  · obtain ⟨o, dx, v, t, rfl, ho, ht, hd, hn, ok, k⟩ := h
    have hrN : ∀ m, m ≤ 7 + n → Room m (A.deeper (envOfC "Step.__init__" (defScope sTIni) s.heap.objs.size f cdv)) := fun m h => hr.mono h
    refine ⟨_, pss_cons (ps_fld (pv 0) (pe_call GPT (hrN _ (by omega)) rfl aPT.m aPT.k aPT.b .nil pass0 (pa_cons (pv 1) (pa_cons (pe_tup pa_nil) (pa_cons (pe_tup pa_nil) pa_nil)))) rfl)
            (pss_one (ps_fld (pv 0) (pe_call GUn (hrN _ (by omega)) rfl aUn.m aUn.k aUn.b .nil pass0 (pa_cons (pe_fld (pv 0) rfl) pa_nil)) rfl)), ?_⟩
    refine ⟨_, rfl, by show 0 ≤ sizeLine; decide, fun p1 hp1 => ⟨by show 0 ≤ sizeLine; decide, fun p2 hp2 => ?_⟩⟩
    have s1 := same_mk (o := .tup []) hp1
    have s2 := same_mk (o := .tup []) hp2
    have s12 := s1.trans s2
    refine ⟨v, p1, p2, t, [], [], [], rfl, ht.up s12, hd, s2 _ _ upd_same, by show 0 + dep t ≤ 50; omega, upd_same, ⟨rfl, fun i x k h => by simp at h⟩, by show 0 + dep t ≤ 50; omega, ok, fun k hk => by simp at hk, fun r H3 s3 hr3 => ?_⟩
    have s13 := s12.trans s3
    have ho3 := s13 _ _ ho
    refine ⟨_, rfl, o, C, dx, [], rfl, ho3, S0.cl, S0.n1, by show 0 < 1000; decide, ?_⟩
    have t4 : TupS H3 (upd H3 o (.ins C dx [("top", r)])) := tupS_put ho3 fun xs z => by cases z
    have b4 : ButO o H (upd H3 o (.ins C dx [("top", r)])) := fun b u hb nb => by rw [upd_ne nb]; exact s13 _ _ hb
    have ho4 := upd_same (H := H3) (a := o) (o := .ins C dx [("top", r)])
    have hr4 := TrAt.tup t4 hr3
    refine ⟨_, rfl, o, C, dx, _, _, rfl, ho4, S0.cl, S0.n1, rfl, r, t, [], rfl, hr4, hd, ok, fun u H5 s5 hu5 => ?_⟩
    have ho5 := s5 _ _ ho4
    refine ⟨_, rfl, o, C, dx, [("top", r)], rfl, ho5, S0.cl, S0.n2, by show 1 < 1000; decide, ?_⟩
    have t6 : TupS H5 (upd H5 o (.ins C dx [("top", r), ("choices", u)])) := tupS_put ho5 fun xs z => by cases z
    refine k (upd H5 o (.ins C dx [("top", r), ("choices", u)])) (fun b x hb nb => ?_) ⟨dx, r, u, upd_same, TrAt.tup t6 (hr4.up s5), UAt.go t6 (fun b rs _ hb => ?_) (fun b hb => ?_) hu5, ok⟩
    · rw [upd_ne nb]
      exact s5 _ _ (b4 _ _ hb nb)
    · rw [upd_ne (ne_of hb ho5 fun z => by unfold DA.DO at z; cases z)]
      exact hb
    · cases e : H b with
      | none => rfl
      | some q =>
        have hb' : upd H3 o (.ins C dx [("top", r)]) b = none := hb
        by_cases nb : b = o
        · rw [nb, ho4] at hb'; cases hb'
        · rw [b4 _ _ e nb] at hb'; cases hb'
theorem ok_ttreeN {f : Addr} {fd : FuncData} (F : Fun K "tree" "Step.tree" sTTree f fd) (S0 : TCl K mg C mt) : FnOk P w K mg base CX0 1 f fd ["self"] (spTTreeN w C) := by
  refine F.ok scTTree (fun vs H Q E h => ?_) (fun cdv A outer s H vs Q E hr h => ?_)
  · obtain ⟨o, t, N, rfl, _⟩ := h
    rfl
  · obtain ⟨o, t, N, rfl, ⟨dx, u, v, ho, hu, hv, _⟩, k⟩ := h
    refine ⟨_, pss_one (ps_ret (pe_fld (pv 0) rfl)), ?_⟩
    exact ⟨_, rfl, o, C, dx, _, _, rfl, ho, S0.cl, S0.n1, lk_t1 _ _, k _ hu⟩
end
end T5

set_option maxHeartbeats 3900000
namespace T5
open PySem PySem.Spec PyProof.Rows L2 TL
open C8 (pss_cut tCut pe_gc)
open CB XW LE LR
mutual
def looksM : Tr → List Lk
  | .fin _ => []
  | .ask k cs o => k :: (looksC cs ++ looksM o)
def looksC : Cs → List Lk
  | [] => []
  | (_, t) :: r => looksM t ++ looksC r
end
def TrsAt (H : Hp) (vs : List V) (ts : List Tr) : Prop := vs.length = ts.length ∧ ∀ (i : Nat) (v : V) (t : Tr), vs[i]? = some v → ts[i]? = some t → TrAt H v t
def partsM (cs : Cs) (o : Tr) : List Tr := cs.map (·.2) ++ [o]
def looksP (ts : List Tr) : List Lk := (ts.map looksM).flatten
theorem looksC_p : ∀ cs : Cs, looksC cs = looksP (cs.map (·.2))
  | [] => rfl
  | (a, t) :: r => by
    show looksM t ++ looksC r = _
    rw [looksC_p r]
    rfl
theorem looks_ask (k : Lk) (cs : Cs) (o : Tr) : looksM (.ask k cs o) = k :: looksP (partsM cs o) := by
  show k :: (looksC cs ++ looksM o) = _
  rw [looksC_p]
  unfold looksP partsM
  rw [List.map_append, List.flatten_append]
  simp
theorem parts_dep {k : Lk} {cs : Cs} {o : Tr} {ab : List Lk} {n : Nat} (h : dep (.ask k cs o) < n + 1) (ok : OkT ab (.ask k cs o)) : ∀ t ∈ partsM cs o, dep t < n ∧ OkT (ab ++ [k]) t := fun t ht => by
  obtain ⟨_, _, _, _, okc, oko⟩ := ok
  have : max (depC cs) (dep o) + 1 < n + 1 := h
  rcases List.mem_append.mp ht with ht | ht
  · obtain ⟨c, hc, rfl⟩ := List.mem_map.mp ht
    have := depC_mem c hc
    exact ⟨by omega, (okC_mem okc c hc).2⟩
  · rw [List.mem_singleton.mp ht]
    exact ⟨by omega, oko⟩
theorem LksT.cat {H : Hp} {vs us : List V} {ks js : List Lk} (h : LksT H vs ks) (g : LksT H us js) : LksT H (vs ++ us) (ks ++ js) := by
  refine ⟨by rw [List.length_append, List.length_append, h.1, g.1], fun i v j a b => ?_⟩
  by_cases e : i < vs.length
  · rw [List.getElem?_append_left e] at a
    rw [List.getElem?_append_left (h.1 ▸ e)] at b
    exact h.2 i v j a b
  · have e2 := h.1
    rw [List.getElem?_append_right (by omega)] at a
    rw [List.getElem?_append_right (by omega)] at b
    exact g.2 _ v j a (by rw [e2]; exact b)
theorem LksT.tup {H H' : Hp} {vs : List V} {ks : List Lk} (h : LksT H vs ks) (s : TupS H H') : LksT H' vs ks := ⟨h.1, fun i v k a b => by
  obtain ⟨p, e, q⟩ := h.2 i v k a b
  exact ⟨p, e, s _ _ q⟩⟩
def spPof : Sp := fun vs H Q _ => ∃ (p kp cp : Addr) (ov : V) (xs : List V) (k : Lk) (cs : Cs) (o : Tr), vs = [.ref p] ∧ H p = some (.tup [.str "ask", .ref kp, .ref cp, ov]) ∧ H cp = some (.tup xs) ∧ CsAt H xs cs ∧ TrAt H ov o ∧ cs.length ≤ 100 ∧ ∀ D H' us, Same H H' → H D = none → H' D = some (.lst us) → TrsAt H' us (partsM cs o) → Q (.ref D) H'
def spLin (n : Nat) : Sp := fun vs H Q _ => ∃ v t ab, vs = [v] ∧ TrAt H v t ∧ dep t < n ∧ OkT ab t ∧ (looksM t).length ≤ 100000 ∧ ∀ D H' us, Same H H' → H D = none → H' D = some (.lst us) → LksT H' us (looksM t) → Q (.ref D) H'
section
variable {P : Program} {w : World} {K : PySem.W.Frag} {mg : Str → Option Value} {base : Heap}
theorem scPof : FnScope ["ask", "answer", "part"] ["ask"] (defScope sPof) := ⟨rfl, rfl, rfl, by decide +kernel, rfl, by decide +kernel, by decide +kernel⟩
theorem ok_pof {f : Addr} {fd : FuncData} (F : Fun K "parts_of" "parts_of" sPof f fd) (T : TB mg) : FnOk P w K mg base CX0 1 f fd ["ask"] spPof := by
  refine F.ok scPof (fun vs H Q E h => ?_) (fun cdv A outer s H vs Q E hr h => ?_)
  · obtain ⟨p, kp, cp, ov, xs, k, cs, o, rfl, _⟩ := h
    rfl
  · obtain ⟨p, kp, cp, ov, xs, k, cs, o, rfl, r, rc, cc, to, cl, fin⟩ := h
    refine ⟨_, pss_one (ps_ret (pe_op op_cat (pe_lc (own := [("answer", 1), ("part", 2)]) (g := gTup K 2 (gCons (gName 1) (gCons (gName 2) gNil))) (tt := tYes) rfl scPof.nd (pi_tup (pe_ix ix_tup (pv 0) pe_int (fun _ _ => rfl))) (blkOk_by (own := [("answer", 1), ("part", 2)]) (N := ["ask", "answer", "part"]) (sc := defScope sPof) (by decide +kernel)) (fun _ _ _ _ _ => (pg_tupK (K0 := K) rfl rfl (pgs_cons (pg_name (i := 1) scPof.nd rfl (Or.inl rfl)) (pgs_cons (pg_name (i := 2) scPof.nd rfl (Or.inl rfl)) pgs_nil)))) (fun _ _ _ _ _ => pts_nil) (fun _ _ _ _ _ => (by exact (pv 2)))) (pe_lst (pa_cons (pe_ix ix_tup (pv 0) pe_int (fun _ _ => rfl)) pa_nil)))), ?_⟩
    obtain ⟨zs, e1, e2, e3⟩ := cs_zip2 cc
    subst e1
    subst e2
    rw [List.length_map] at cl
    refine ⟨_, rfl, p, _, 2, _, rfl, rfl, SqT.of r, atI_nat (j := 2) rfl, cp, rfl, ⟨_, SqT.of rc⟩, fun D1 hD1 => ?_⟩
    refine LW.lcWT (K := K) (walk_tup (K := K) (a := cp) (xs := zs.map fun z => V.ref z.row)) (by decide) (zs.map fun z => z.tv) (by rw [List.length_map, List.length_map]) (by rw [List.length_map]; omega) hD1 (fun H' s => SqT.of (s _ _ rc)) ?_ ?_
    · rintro m x y H2 H3 hy s2 ⟨rfl, hx⟩
      obtain ⟨z, hz, rfl, rfl⟩ := map_two hx hy
      exact ⟨rfl, _, _, z.row, rfl, s2 _ _ (e3 z hz).1, fun Q1 q1 => ⟨_, rfl, q1 _ (Same.refl _)⟩⟩
    · intro H2 s2 hD2
      refine ⟨_, rfl, p, _, 3, _, rfl, rfl, SqT.of (s2 _ _ r), atI_nat (j := 3) rfl, by show 1 ≤ sizeLine; decide, fun D3 hD3 => ?_⟩
      have s3 := same_mk (o := .lst [ov]) hD3
      have h3 := upd_same (H := H2) (a := D3) (o := .lst [ov])
      generalize upd H2 D3 (.lst [ov]) = H3 at s3 h3 ⊢
      refine ⟨D1, D3, _, [ov], rfl, rfl, s3 _ _ hD2, h3, Nat.le_trans (show (zs.map fun z => z.tv).length + 1 ≤ 1000 by rw [List.length_map]; omega) (by decide), fun D4 hD4 => ?_⟩
      have s4 := same_mk (o := .lst ((zs.map fun z => z.tv) ++ [ov])) hD4
      have s24 := (s2.trans s3).trans s4
      refine fin D4 _ _ s24 ((s2.trans s3).free hD4) upd_same ⟨by unfold partsM; rw [List.length_append, List.length_append, List.length_map, List.length_map, List.length_map]; rfl, fun i v t hv ht => ?_⟩
      unfold partsM at ht
      rw [List.map_map] at ht
      by_cases lt : i < zs.length
      · rw [List.getElem?_append_left (by rw [List.length_map]; exact lt)] at hv ht
        rw [List.getElem?_map, List.getElem?_eq_getElem lt] at hv ht
        cases hv
        cases ht
        exact (e3 _ (List.getElem_mem lt)).2.2.up s24
      · rw [List.getElem?_append_right (by rw [List.length_map]; omega), List.length_map] at hv ht
        have l1 := (List.getElem?_eq_some_iff.mp hv).1
        rw [List.length_singleton] at l1
        rw [show i - zs.length = 0 by omega] at hv ht
        cases hv
        cases ht
        exact to.up s24
theorem scLin : FnScope ["tree", "looks", "part"] ["tree"] (defScope sLin) := ⟨rfl, rfl, rfl, by decide +kernel, rfl, by decide +kernel, by decide +kernel⟩
theorem ok_lin {f fP : Addr} {fd fdP : FuncData} (F : Fun K "looks_in" "looks_in" sLin f fd) (T : TB mg) (aLin : At K mg "looks_in" f fd ["tree"]) (aPof : At K mg "parts_of" fP fdP ["ask"]) (GPof : FnOk P w K mg base CX0 1 fP fdP ["ask"] spPof) : ∀ n, FnOk P w K mg base CX0 (n + 2) f fd ["tree"] (spLin n) := by
  intro n
  induction n with
  | zero =>
    refine ⟨fun vs H Q E h => ?_, fun A outer s H args us vs Q E hr he hb hv h => ?_⟩
    · obtain ⟨v, t, ab, rfl, _⟩ := h
      rfl
    · obtain ⟨v, t, ab, _, _, hd, _⟩ := h
      exact absurd hd (Nat.not_lt_zero _)
  | succ n GLin =>
    refine F.ok scLin (fun vs H Q E h => ?_) (fun cdv A outer s H vs Q E hr h => ?_)
    · obtain ⟨v, t, ab, rfl, _⟩ := h
      rfl
    · obtain ⟨v, t, ab, rfl, ht, hd, ok, ll, k⟩ := h
      have hrN : ∀ m, m ≤ n + 2 → Room m (A.deeper (envOfC "looks_in" (defScope sLin) s.heap.objs.size f cdv)) := fun m h => hr.mono h
      refine ⟨_, pss_cons (ps_if (pt_cmpR op_eq (pe_ix ix_tup (pv 0) pe_int (fun _ _ => rfl)) pe_str (nomark _)) (pss_one (ps_ret (pe_lst pa_nil))) (pss_nil))
              (pss_cons (ps_set (i := 1) scLin.nd rfl (Or.inl rfl) (pe_lst (pa_cons (pe_ix ix_tup (pv 0) pe_int (fun _ _ => rfl)) pa_nil)))
              (pss_cons (ps_for PassesOwn.never rfl (pi_list (pe_call GPof (hrN _ (by omega)) rfl aPof.m aPof.k aPof.b .nil pass0 (pa_cons (pv 0) pa_nil))) (pg_name (i := 2) scLin.nd rfl (Or.inl rfl)) (pss_one (ps_expr (pe_bm PySem.F.plainAttrs_list PySem.F.slot_list_extend PySem.F.type_list_extend mt_extend (pv 1) (pa_cons (pe_call GLin (hrN _ (by omega)) rfl aLin.m aLin.k aLin.b .nil pass0 (pa_cons (pv 2) pa_nil)) pa_nil)))))
              (pss_one (ps_ret (pv 1))))), ?_⟩
      cases ht with
      | @fin p z r =>
        refine ⟨_, rfl, p, _, 0, _, rfl, rfl, SqT.of r, atI_nat (j := 0) rfl, rfl, _, rfl, iteT ⟨by show 0 ≤ sizeLine; decide, fun D hD => ?_⟩⟩
        exact k D _ [] (same_mk hD) hD upd_same ⟨rfl, fun i v k h => by simp at h⟩
      | @ask p kp cp ov xs kk cs o r rk rc cc to =>
        have pd := parts_dep hd ok
        obtain ⟨lok, nin, nd, cl, okc, oko⟩ := ok
        refine ⟨_, rfl, p, _, 0, _, rfl, rfl, SqT.of r, atI_nat (j := 0) rfl, rfl, _, rfl, iteF ?_⟩
        refine ⟨_, rfl, p, _, 1, _, rfl, rfl, SqT.of r, atI_nat (j := 1) rfl, by show 1 ≤ sizeLine; decide, fun D hD => ?_⟩
        have s1 := same_mk (o := .lst [.ref kp]) hD
        have hDD := upd_same (H := H) (a := D) (o := .lst [.ref kp])
        generalize upd H D (.lst [.ref kp]) = H1 at s1 hDD ⊢
        refine ⟨_, rfl, p, kp, cp, ov, xs, kk, cs, o, rfl, s1 _ _ r, s1 _ _ rc, CsAt.up s1 cc, to.up s1, cl, fun D2 H2 us s2 hD2 hu2 tu => ?_⟩
        have lP : (looksM (.ask kk cs o)) = kk :: looksP (partsM cs o) := looks_ask kk cs o
        have lN : (looksP (partsM cs o)).length ≤ 100000 := by rw [lP, List.length_cons] at ll; omega
        have mono : ∀ i, (looksP ((partsM cs o).take i)).length ≤ (looksP (partsM cs o)).length := fun i => by
          unfold looksP
          rw [List.map_take, ← List.take_append_drop i ((partsM cs o).map looksM), List.flatten_append, List.length_append, List.take_append_drop]
          exact Nat.le_add_right _ _
        have nD : D ≠ D2 := fun e => by rw [← e, hDD] at hD2; cases hD2
        have hD22 := s2 _ _ hDD
        refine ⟨D2, rfl, ⟨_, SqL.of hu2⟩, for_it (walk_list (K := K) (a := D2) (xs := us)) (fun i σ H' => ∃ x2 ls, σ = [some (.ref p), some (.ref D), x2] ∧ (∀ b u, b ≠ D → H2 b = some u → H' b = some u) ∧ H' D = some (.lst ls) ∧ LksT H' ls (kk :: looksP ((partsM cs o).take i)))
          ⟨none, [.ref kp], rfl, fun b u _ h => h, hD22, ⟨rfl, fun i v k a b => ?_⟩⟩ (fun i σ H' _ q => ?_) ?_ ?_⟩
        · match i, a, b with
          | 0, a, b => cases a; cases b; exact ⟨kp, rfl, s2 _ _ (s1 _ _ rk)⟩
          | i + 1, a, b => simp at a
        · obtain ⟨_, _, _, kp', _⟩ := q
          exact SqL.of (kp' _ _ nD.symm hu2)
        · rintro i x σ H3 H4 hi ⟨x2, ls, rfl, kp3, hD3, lk3⟩ ⟨rfl, hx⟩
          have hl : i < (partsM cs o).length := by rw [← tu.1]; exact hi
          have hpi : (partsM cs o)[i]? = some (partsM cs o)[i] := List.getElem?_eq_getElem hl
          have ht4 := tu.2 i x _ hx hpi
          obtain ⟨pd1, pd2⟩ := pd _ (List.getElem_mem hl)
          have tb : TupS H2 H4 := fun b xs e => kp3 _ _ (ne_of e hD22 (by intro z; cases z)) e
          have etk : looksP ((partsM cs o).take (i + 1)) = looksP ((partsM cs o).take i) ++ looksM (partsM cs o)[i] := by
            unfold looksP
            rw [List.take_succ, hpi, List.map_append, List.flatten_append]
            simp
          have m1 := mono (i + 1)
          rw [etk, List.length_append] at m1
          refine ⟨_, rfl, .inl ⟨rfl, _, SqL.of hD3⟩, _, rfl, x, (partsM cs o)[i], _, rfl, TrAt.tup tb ht4, pd1, pd2, by omega, fun D5 H5 us5 s5 hD5 hu5 lk5 => ?_⟩
          have l3 := lk3.1
          have l5 := lk5.1
          rw [List.length_cons] at l3
          refine ⟨D, D5, ls, us5, rfl, rfl, s5 _ _ hD3, hu5, Nat.le_trans (show ls.length + us5.length ≤ 1000000 by omega) (by decide), ?_⟩
          have tb6 : TupS H5 (upd H5 D (.lst (ls ++ us5))) := tupS_put (s5 _ _ hD3) fun xs z => by cases z
          refine ⟨_, ls ++ us5, rfl, fun b u nb hb => ?_, upd_same, ?_⟩
          · rw [upd_ne nb]
            exact s5 _ _ (kp3 _ _ nb hb)
          · rw [etk]
            exact ((lk3.up s5).cat lk5).tup tb6
        · rintro σ H3 ⟨x2, ls, rfl, kp3, hD3, lk3⟩
          rw [tu.1, List.take_length, ← lP] at lk3
          refine ⟨_, rfl, k D H3 ls (fun b u hb => kp3 _ _ (fun e => by rw [e, hD] at hb; cases hb) (s2 _ _ (s1 _ _ hb))) hD hD3 lk3⟩
end
end T5

set_option maxHeartbeats 3900000
namespace DT
open PySem PySem.Spec PyProof.Rows L2
abbrev dict0 : Obj := { cls := .type "dict", data := .dict #[] }
structure Kd (X : Cx) where
  o0 : HO
  put : Addr → V → V → Hp → (Hp → Prop) → Prop
  new : ∀ (H : Hp) (h : Heap), sysModules < h.objs.size → ObjOk X.prog X.w H (h.push dict0) h.objs.size o0
  set : ∀ (Y : Cx), Y.prog = X.prog → Y.w = X.w → Y.A = X.A → ∀ (pins : List (Addr × Obj)) (σ : L2.St) (H : Hp) (s : Shared) (E : Value → Shared → Prop) (D : Addr) (y z : V) (u r : Value) (N : Hp → Prop) (Q : Unit → Shared → Prop),
    Inv Y pins σ H s → put D y z H N → RelV y u → RelV z r → (∀ H' s', Inv Y pins σ H' s' → N H' → Q () s') → wpAny (model X.prog X.w) X.A (dictSet D u r) Q E s
def turnG {X : Cx} (M : Kd X) (g : TG) (tt : TT) (tk tv : TE) (D : Addr) (τ : L2.St) (vs : List Nat) (x : V) (H : Hp) (N : Hp → Prop) : Prop :=
  g x τ H fun σ2 H2 => wipe σ2 vs = τ ∧ tt σ2 H2 fun b H3 => if b = true then tk σ2 H3 fun y H4 => tv σ2 H4 fun z H5 => M.put D y z H5 N else N H3
def tDg {X : Cx} (M : Kd X) (wi : TI) (g : TG) (tt : TT) (tk tv : TE) (vs : List Nat) : TE := fun σ H Q => wi σ H fun J H1 => ∀ D, H1 D = none → ∃ W : Nat → Nat → Hp → Prop, (∃ m, W 0 m (upd H1 D M.o0)) ∧
  ∀ i m H, W i m H → (J.stop i H ∧ Q (.ref D) H) ∨ (J.go i H ∧ ∃ N : Hp → Prop, (∀ H', N H' → ∃ m', m' < m ∧ W (i + 1) m' H') ∧ ∀ x H', J.yld i H x H' → turnG M g tt tk tv D (wipe σ vs) vs x H' N)
section
variable {X : Cx} {M : Kd X} {kx vx tg iter : Expr} {ifs : List Expr} {scope : Scope} {own : List (Str × Nat)} {pos : Pos} {wi : TI} {g : TG} {tt : TT} {tk tv : TE}
abbrev cenv (X : Cx) (scope : Scope) (h : Heap) : Env := compEnvC scope (cellsFrom (h.objs.size + 1) scope.names (cloFrom X.env.cells scope.names [])) h.objs.size X.env
theorem loopG {use : Option (Value → Sem Unit)} {Qf : Value → Shared → Prop} {pins : List (Addr × Obj)} {σ : L2.St} {H0 : Hp} {s0 s1 : Shared} {Q : VK} {it D : Addr} {fp : List Addr} {tn : Nat → Heap → Prop} {J : It} {W : Nat → Nat → Hp → Prop} {m0 : Nat} (hc : X.calm = true)
    (hg : ∀ s H C cl fp, PG (X.blk s H scope (compEnvC scope cl C X.env) fp) tg g) (ht : ∀ s H C cl fp, PTs (X.blk s H scope (compEnvC scope cl C X.env) fp) ifs tt) (hk : ∀ s H C cl fp, PE (X.blk s H scope (compEnvC scope cl C X.env) fp) kx tk) (he : ∀ s H C cl fp, PE (X.blk s H scope (compEnvC scope cl C X.env) fp) vx tv)
    (T : Turn X.prog X.w X.K tg J fp it tn) (I0 : Inv X pins σ H0 s0) (F0 : ∀ b ∈ fp, FpOk X pins H0 b) (I1 : Inv (X.blk s0 H0 scope (cenv X scope s0.heap) fp) [] (wipe σ (own.map (·.2))) H0 s1) (t1 : tn 0 s1.heap) (w0 : W 0 m0 H0)
    (turn : ∀ i m H, W i m H → (J.stop i H ∧ Q (.ref D) H) ∨ (J.go i H ∧ ∃ N : Hp → Prop, (∀ H', N H' → ∃ m', m' < m ∧ W (i + 1) m' H') ∧ ∀ x H', J.yld i H x H' → turnG M g tt tk tv D (wipe σ (own.map (·.2))) (own.map (·.2)) x H' N))
    (hEnd : ∀ s' m H', Inv X pins σ H' s' → Q (.ref D) H' → s'.heap.Ns s0.heap.objs.size m → FpOk X pins H' s0.heap.objs.size → compPost (model X.prog X.w) X.A X.xe use Qf (.ref D) s0.heap.objs.size (.ok .next) s') :
    codeAny (model X.prog X.w) X.A (.compLoop (.DictComp kx vx [⟨tg, iter, ifs, 0⟩] scope pos) 0 (.ref it) (.ref D) (cenv X scope s0.heap)) (compPost (model X.prog X.w) X.A X.xe use Qf (.ref D) s0.heap.objs.size) s1 := by
  have PGb := hg s0 H0 s0.heap.objs.size (cellsFrom (s0.heap.objs.size + 1) scope.names (cloFrom X.env.cells scope.names [])) fp
  have PTb := ht s0 H0 s0.heap.objs.size (cellsFrom (s0.heap.objs.size + 1) scope.names (cloFrom X.env.cells scope.names [])) fp
  have PKb := hk s0 H0 s0.heap.objs.size (cellsFrom (s0.heap.objs.size + 1) scope.names (cloFrom X.env.cells scope.names [])) fp
  have PVb := he s0 H0 s0.heap.objs.size (cellsFrom (s0.heap.objs.size + 1) scope.names (cloFrom X.env.cells scope.names [])) fp
  -- what the iterator leans on stays the block's own
  have own_fp : ∀ {τ : L2.St} {Hn : Hp} {sn : Shared}, Inv (X.blk s0 H0 scope (cenv X scope s0.heap) fp) [] τ Hn sn → (∀ b ∈ fp, Hn b = none) → ∀ b ∈ fp, FpOk (X.blk s0 H0 scope (cenv X scope s0.heap) fp) [] Hn b := fun In nn b hb =>
    ⟨nn b hb, (In.ok.exf b hb).1, In.ok.exfs b hb, Or.inl hb, fun x c e => (In.ok.exf b hb).2 x c e, fun p hp => (nomatch (hp : p ∈ ([] : List (Addr × Obj))))⟩
  refine compLoop_anyD (fun n sn => ∃ i Hn, Inv (X.blk s0 H0 scope (cenv X scope s0.heap) fp) [] (wipe σ (own.map (·.2))) Hn sn ∧ tn i sn.heap ∧ (∀ b ∈ fp, Hn b = none) ∧ W i n Hn) (fun n s2 hi => ?_) m0 ⟨0, H0, I1, t1, fun b hb => (F0 b hb).1, w0⟩
  obtain ⟨i, H2, I2, t2, n2, w2⟩ := hi
  rcases turn i n H2 w2 with ⟨stop, fin⟩ | ⟨go, N, hN, step⟩
  · refine thnF (T.done (X.blk s0 H0 scope (cenv X scope s0.heap) fp) rfl rfl rfl hc i [] s2 _ H2 (fun _ _ => False) I2 (own_fp I2 n2) t2 stop) fun r s3 ⟨er, I3⟩ => ?_
    rw [er]
    obtain ⟨m, hns, _⟩ := I3.loc
    have nC : H2 s0.heap.objs.size = none := I3.free
    have Iend : Inv X pins σ H2 s3 := I0.call' (ch := fp) I3.os I3.base I3.hok I3.bare fun b hb => by
      obtain ⟨_, f2, _, f4, f5, f6⟩ := F0 b hb
      exact ⟨f4, f2, f5, f6⟩
    exact hEnd s3 m H2 Iend fin hns (I0.fpOk (Nat.le_refl _) nC)
  · refine thnF (T.item (X.blk s0 H0 scope (cenv X scope s0.heap) fp) rfl rfl rfl hc i [] s2 _ H2 (fun _ _ => False) I2 (own_fp I2 n2) t2 go) fun r s3 ⟨u, er, p3⟩ => ?_
    rw [er]
    refine thnF p3 fun _ s4 ⟨x, H4, I4, r4, y4, t4, n4⟩ => ?_
    have I4p := I4.pinned (own_fp I4 n4) (T.obj _ _ t4)
    refine thnF (PGb.run _ s4 _ H4 x u _ I4p r4 (step x H4 y4)) fun _ s5 ⟨σ5, H5, I5, hw5, q5⟩ => ?_
    refine thnF (PTb.run _ s5 σ5 H5 _ I5 q5) fun b s6 ⟨H6, I6, q6⟩ => ?_
    have close : ∀ (s' : Shared) (H' : Hp), Inv (X.blk s0 H0 scope (cenv X scope s0.heap) fp) ([] ++ pinsAt fp s4.heap) σ5 H' s' → N H' → ∃ m, m < n ∧ ∃ i Hn, Inv (X.blk s0 H0 scope (cenv X scope s0.heap) fp) [] (wipe σ (own.map (·.2))) Hn s' ∧ tn i s'.heap ∧ (∀ b ∈ fp, Hn b = none) ∧ W i m Hn := fun s' H' I' nx => by
      obtain ⟨m', lt, w'⟩ := hN H' nx
      have at_ : ∀ b ∈ fp, ∀ o, s4.heap.get? b = some o → s'.heap.get? b = some o ∧ H' b = none := fun b hb o e => by
        obtain ⟨z1, z2, _⟩ := I'.pin (b, o) (List.mem_append_right _ (List.mem_append_right _ (mem_pinsAt hb e)))
        exact ⟨z1, z2⟩
      refine ⟨m', lt, i + 1, H', (I'.unpinned (pins := [])).weak (by rw [← hw5, wipe_length]) (fun j v e => (wipe_some (by rw [← hw5] at e; exact e)).1), T.keep _ _ _ t4 fun b hb o e => (at_ b hb o e).1, fun b hb => ?_, w'⟩
      obtain ⟨o, e, _⟩ := T.obj _ _ t4 b hb
      exact (at_ b hb o e).2
    cases b with
    | false =>
      rw [if_neg Bool.false_ne_true] at q6 ⊢
      exact close s6 H6 I6 q6
    | true =>
      rw [if_pos rfl] at q6 ⊢
      refine thnF (PKb.run _ s6 σ5 H6 _ I6 q6) fun kv s7 ⟨yk, H7, I7, r7, q7⟩ => thnF (PVb.run _ s7 σ5 H7 _ I7 q7) fun vv s8 ⟨yv, H8, I8, r8, q8⟩ => ?_
      exact M.set (X.blk s0 H0 scope (cenv X scope s0.heap) fp) rfl rfl rfl _ _ _ _ _ _ _ _ _ _ _ _ I8 q8 r7 r8 fun H' s' I' nx => close s' H' I' nx
theorem dcG_run {use : Option (Value → Sem Unit)} {Qf : Value → Shared → Prop} {pos' : Pos} {pins : List (Addr × Obj)} {s : Shared} {σ : L2.St} {H : Hp} {Q : VK} (M : Kd X) (hc : X.calm = true) (hN : X.N.Nodup) (hi : PI X tg iter wi) (ok : BlkOk X.N X.env.scope scope own)
    (hg : ∀ s H C cl fp, PG (X.blk s H scope (compEnvC scope cl C X.env) fp) tg g) (ht : ∀ s H C cl fp, PTs (X.blk s H scope (compEnvC scope cl C X.env) fp) ifs tt) (hk : ∀ s H C cl fp, PE (X.blk s H scope (compEnvC scope cl C X.env) fp) kx tk) (he : ∀ s H C cl fp, PE (X.blk s H scope (compEnvC scope cl C X.env) fp) vx tv)
    (hs : ∀ x, foldedSetIterable iter X.env x = pure x) (I : Inv X pins σ H s) (h : tDg M wi g tt tk tv (own.map (·.2)) σ H Q)
    (hEnd : ∀ D C s' m H', Inv X pins σ H' s' → Q (.ref D) H' → s'.heap.Ns C m → FpOk X pins H' C → compPost (model X.prog X.w) X.A X.xe use Qf (.ref D) C (.ok .next) s') :
    wpAny (model X.prog X.w) X.A (comprehension (.DictComp kx vx [⟨tg, iter, ifs, 0⟩] scope pos) scope X.env pos' newDict false (eval iter X.env) use) Qf X.xe s := by
  refine wpAny_comprehension_free (use := use) rfl hs (closure_ok fun y hy e => (ok.free y hy e).elim (fun k => I.ok.has _ (.inl k)) fun k => I.ok.has _ (.inr k)) ok.kind (fun y hy e => (ok.uniq y hy).trans (congrArg some e)) ?_
  refine thn (hi.run pins s σ H _ I h) fun v1 s1 p1 => thn p1 fun v2 s2 p2 => ?_
  obtain ⟨it, fp, tn, J, Ha, rfl, Ia, T, ta, fa, q⟩ := p2
  refine wpAny_newObj_type (newEnv_comp ?_)
  obtain ⟨W, ⟨m0, w0⟩, turn⟩ := q s2.heap.objs.size (Ia.hok.fresh (Nat.le_refl _))
  have lt : ∀ b ∈ fp, b < s2.heap.objs.size := fun b hb => by
    obtain ⟨o, e, _⟩ := T.obj _ _ ta b hb
    exact Heap.lt_size e
  have Ib : Inv X pins σ (upd Ha s2.heap.objs.size M.o0) { s2 with heap := s2.heap.push dict0 } := Ia.laid (t' := s2.toks) (fun b o e => Heap.get?_push_of_some _ e) (Nat.le_refl _) (M.new _ _ Ia.big)
  have fb : ∀ b ∈ fp, FpOk X pins (upd Ha s2.heap.objs.size M.o0) b := fun b hb => by
    obtain ⟨z, r⟩ := fa b hb
    exact ⟨(upd_ne (Nat.ne_of_lt (lt b hb))).trans z, r⟩
  have tb : tn 0 (s2.heap.push dict0) := T.keep _ _ _ ta fun b _ o e => Heap.get?_push_of_some _ e
  have Ic := block_start (scope := scope) (own := own) (fp := fp) Ib ok hN fun b hb => ⟨fb b hb, by show b < (s2.heap.push dict0).objs.size; rw [Heap.size_push]; exact Nat.lt_succ_of_lt (lt b hb)⟩
  have tc : tn 0 (pushCells ((s2.heap.push dict0).push dict0) scope.names) := T.keep _ _ _ tb fun b _ o e => pushCells_keeps _ _ _ _ (Heap.get?_push_of_some _ e)
  have L := loopG (use := use) (Qf := Qf) (M := M) (kx := kx) (vx := vx) (iter := iter) (pos := pos) (D := s2.heap.objs.size) (s0 := { s2 with heap := s2.heap.push dict0 }) hc hg ht hk he T Ib fb Ic tc w0 turn fun s' m H' I' q' hn f => hEnd _ _ s' m H' I' q' hn f
  exact codeAny_compStart_dict L (T.self X.A 0 _ _ _ tc L)
theorem pe_dcG (M : Kd X) (hc : X.calm = true) (hN : X.N.Nodup) (hi : PI X tg iter wi) (ok : BlkOk X.N X.env.scope scope own)
    (hg : ∀ s H C cl fp, PG (X.blk s H scope (compEnvC scope cl C X.env) fp) tg g) (ht : ∀ s H C cl fp, PTs (X.blk s H scope (compEnvC scope cl C X.env) fp) ifs tt) (hk : ∀ s H C cl fp, PE (X.blk s H scope (compEnvC scope cl C X.env) fp) kx tk) (he : ∀ s H C cl fp, PE (X.blk s H scope (compEnvC scope cl C X.env) fp) vx tv)
    (hs : ∀ x, foldedSetIterable iter X.env x = pure x := by intro _; rfl) : PE X (.DictComp kx vx [⟨tg, iter, ifs, 0⟩] scope pos) (tDg M wi g tt tk tv (own.map (·.2))) := by
  refine ⟨fun pins s σ H Q I h => ?_⟩
  rw [arm_eval_DictComp]
  refine dcG_run (use := none) M hc hN hi ok hg ht hk he hs I h fun D C s' m H' I' q hn f => ⟨m, hn, fun h' sb => ?_⟩
  obtain ⟨g0, g1, g2, g3, g4, g5⟩ := f
  exact ⟨.ref D, H', I'.turned (t' := s'.toks) (fun b o hb e => (sb.2 b hb).trans e) g0 g1 g3 g4 g5, rfl, q⟩
def kT (X : Cx) (hu : X.A.units + 1 < cLine) : Kd X where
  o0 := .dT []
  put := fun D y z H N => ∃ kvs k b, y = .ref b ∧ H b = some (.tup (k.map kV)) ∧ H D = some (.dT kvs) ∧ kvs.length < sizeLine ∧ N (upd H D (.dT (putK kvs k z)))
  new := fun H h hb => dt_empty h hb
  set := by
    intro Y hP hw hA pins σ H s E D y z u r N Q I p ry rz fin
    obtain ⟨kvs, k, b, rfl, hb, hD, hz, nx⟩ := p
    cases (show u = Value.ref b from ry)
    rw [← hP, ← hw, ← hA]
    obtain ⟨zl, hd, xs, rel, dd⟩ := dt_of I.hok hD
    have lx : xs.length ≤ sizeLine := by rw [← Paired.length rel]; exact zl
    have ly : (putK kvs k z).length ≤ sizeLine := by have := length_putK kvs k z; omega
    refine wpAny_dictSet_heap (knd := tupleKind (mixKind Y.prog Y.w)) (hsz := lx) (by show _ < _; rw [hA]; omega) (key_of I.hok hb) dd fun h' dd' sb => ?_
    obtain ⟨ob, es, ep, c1, c2, c3, c4, _, c5⟩ := dd'
    refine fin (upd H D (.dT (putK kvs k z))) _ (d_write I (by rw [hD]; exact True.intro) sb ⟨ob, c1⟩ ⟨ly, hd, _, (rel.put k hb rz).keeps fun c ys ec => ?_, ob, es, ep, c1, c2, c3, c4, c5⟩) nx
    rw [upd_ne (ne_of ec hD fun q => nomatch q)]
    exact ec
end
end DT

set_option maxHeartbeats 3900000
namespace T5
open PySem PySem.Spec PyProof.Rows L2 TL
open C8 (pss_cut tCut pe_gc)
open CB XW LE LR
section
variable {J : It} {n : Nat} {G : Hp → Prop} {Y : Nat → Hp → V → Hp → Prop}
theorem dc_it (w : Walk J n G Y) {X : Cx} {M : DT.Kd X} {g : TG} {tt : TT} {tk tv : TE} {vs : List Nat} {τ : L2.St} {H1 : Hp} {D : Addr} {Qd : Hp → Prop} (Pv : Nat → Hp → Prop) (h0 : Pv 0 (upd H1 D M.o0)) (hG : ∀ i H, i ≤ n → Pv i H → G H)
    (hs : ∀ i x H H', i < n → Pv i H → Y i H x H' → DT.turnG M g tt tk tv D τ vs x H' (Pv (i + 1))) (hd : ∀ H, Pv n H → Qd H) :
    ∃ W : Nat → Nat → Hp → Prop, (∃ m, W 0 m (upd H1 D M.o0)) ∧ ∀ i m H, W i m H →
      (J.stop i H ∧ Qd H) ∨ (J.go i H ∧ ∃ N : Hp → Prop, (∀ H', N H' → ∃ m', m' < m ∧ W (i + 1) m' H') ∧ ∀ x H', J.yld i H x H' → DT.turnG M g tt tk tv D τ vs x H' N) := by
  refine ⟨fun i m H => m = n - i ∧ i ≤ n ∧ Pv i H, ⟨n, by simp, Nat.zero_le _, h0⟩, ?_⟩
  rintro i m H ⟨rfl, hi, p⟩
  have q := hG i H hi p
  by_cases hlt : i < n
  · refine .inr ⟨w.goes i H hlt q, Pv (i + 1), fun H' p' => ⟨n - (i + 1), by omega, rfl, hlt, p'⟩, fun x H' y => hs i x H H' hlt p (w.yields i H x H' hlt q y)⟩
  · have e : i = n := by omega
    subst e
    exact .inl ⟨w.stops H q, hd H p⟩
end
def putL (l : List Lk) (k : Lk) : List Lk := if k ∈ l then l else l ++ [k]
def nubL (l : List Lk) : List Lk := l.foldl putL []
theorem nub_take {l : List Lk} {i : Nat} {k : Lk} (h : l[i]? = some k) : nubL (l.take (i + 1)) = putL (nubL (l.take i)) k := by
  unfold nubL
  rw [List.take_succ, h, List.foldl_append]
  rfl
theorem foldl_putL (l : List Lk) : ∀ a : List Lk, (∀ x, x ∈ l.foldl putL a ↔ x ∈ a ∨ x ∈ l) ∧ (l.foldl putL a).length ≤ a.length + l.length := by
  induction l with
  | nil => intro a; simp
  | cons k r ih =>
    intro a
    obtain ⟨h1, h2⟩ := ih (putL a k)
    rw [List.foldl_cons]
    have e : ∀ x, x ∈ putL a k ↔ x ∈ a ∨ x = k := fun x => by
      unfold putL
      split
      · next h => exact ⟨.inl, fun q => q.elim id fun q => q ▸ h⟩
      · rw [List.mem_append, List.mem_singleton]
    have e2 : (putL a k).length ≤ a.length + 1 := by
      unfold putL
      split
      · omega
      · rw [List.length_append]; exact Nat.le_refl _
    refine ⟨fun x => ?_, by rw [List.length_cons]; omega⟩
    rw [h1, e, List.mem_cons, or_assoc]
theorem nub_mem {l : List Lk} {x : Lk} : x ∈ nubL l ↔ x ∈ l := by
  have := (foldl_putL l []).1 x
  unfold nubL
  simpa using this
theorem nub_len (l : List Lk) : (nubL l).length ≤ l.length := by
  have := (foldl_putL l []).2
  unfold nubL
  simpa using this
theorem looksM_ok {n : Nat} : ∀ {t : Tr} {ab : List Lk}, dep t < n → OkT ab t → ∀ k ∈ looksM t, LkOk k := by
  induction n with
  | zero => intro t ab h; exact absurd h (Nat.not_lt_zero _)
  | succ n ih =>
    intro t ab h ok k hk
    cases t with
    | fin z => cases hk
    | ask kk cs o =>
      rw [looks_ask] at hk
      rcases List.mem_cons.mp hk with rfl | hk
      · exact ok.1
      · unfold looksP at hk
        obtain ⟨l, hl, hk⟩ := List.mem_flatten.mp hk
        obtain ⟨t, ht, rfl⟩ := List.mem_map.mp hl
        obtain ⟨d, o2⟩ := parts_dep h ok t ht
        exact ih d o2 k hk
def dL (l : List Lk) : List (List L2.Key × V) := l.map fun k => (lkey k, .bl true)
theorem dL_put {l : List Lk} {k : Lk} (hl : ∀ x ∈ l, LkW x) (hk : LkW k) : putK (dL l) (lkey k) (.bl true) = dL (putL l k) := by
  have an : ((dL l).any fun kv => decide (kv.1 = lkey k)) = decide (k ∈ l) := by
    unfold dL
    rw [List.any_map, Bool.eq_iff_iff, List.any_eq_true, decide_eq_true_iff]
    exact ⟨fun ⟨x, hx, e⟩ => by rw [← (lkey_inj (hl x hx) hk).mp (of_decide_eq_true e)]; exact hx, fun h => ⟨k, h, decide_eq_true rfl⟩⟩
  unfold putK putL
  rw [an]
  by_cases m : k ∈ l
  · rw [if_pos (decide_eq_true m), if_pos m]
    unfold dL
    rw [List.map_map]
    refine List.map_congr_left fun x hx => ?_
    show (if lkey x = lkey k then (lkey x, V.bl true) else (lkey x, V.bl true)) = _
    rw [ite_self]
  · rw [if_neg (by simpa using m), if_neg m]
    unfold dL
    rw [List.map_append]
    rfl
theorem isKeys_lks {H : Hp} : ∀ {l : List Lk} {bs : List Addr}, IsKeys H (dL l) bs → LksT H (bs.map V.ref) l
  | [], [], _ => ⟨rfl, fun i v k h => by simp at h⟩
  | [], _ :: _, h => by cases h
  | _ :: _, [], h => by cases h
  | k :: l, b :: bs, h => by
    cases h with
    | cons h1 h2 =>
      have r := isKeys_lks (l := l) (bs := bs) h2
      refine ⟨by rw [List.map_cons, List.length_cons, List.length_cons, r.1], fun i v j a c => ?_⟩
      cases i with
      | zero =>
        cases a
        cases c
        exact ⟨b, rfl, by rw [← lkey_V]; exact h1⟩
      | succ i => exact r.2 i v j a c
def spTLooks (w : World) (C : Addr) : Sp := fun vs H Q _ => ∃ o t N, vs = [.ref o] ∧ StN w C N H o t ∧ dep t < 5 ∧ (looksM t).length ≤ 100000 ∧ ∀ D H' us, Same H H' → H D = none → H' D = some (.lst us) → LksT H' us (nubL (looksM t)) → Q (.ref D) H'
section
variable {P : Program} {w : World} {K : PySem.W.Frag} {mg : Str → Option Value} {base : Heap} {C : Addr} {mt : Str → Addr}
theorem scTLooks : FnScope ["self", "look"] ["self"] (defScope sTLooks) := ⟨rfl, rfl, rfl, by decide +kernel, rfl, by decide +kernel, by decide +kernel⟩
theorem ok_tlooks {f fL : Addr} {fd fdL : FuncData} (F : Fun K "looks" "Step.looks" sTLooks f fd) (T : TB mg) (S0 : TCl K mg C mt) (aLin : At K mg "looks_in" fL fdL ["tree"]) (GLin : FnOk P w K mg base CX0 7 fL fdL ["tree"] (spLin 5)) : FnOk P w K mg base CX0 8 f fd ["self"] (spTLooks w C) := by
  refine F.ok scTLooks (fun vs H Q E h => ?_) (fun cdv A outer s H vs Q E hr h => ?_)
  · obtain ⟨o, t, N, rfl, _⟩ := h
    rfl
  · obtain ⟨o, t, N, rfl, ⟨dx, u, v, ho, hu2, hv, ok⟩, dp, ll, k⟩ := h
    have hu1 := Nat.lt_of_le_of_lt (Nat.add_le_add_left (show 1 ≤ 64 by decide) _) hr.units
    refine ⟨_, pss_one (ps_ret (pe_callTy (call_list_dT rfl) (by rfl) T.list (by decide +kernel) (pa_cons (DT.pe_dcG (DT.kT _ hu1) (own := [("look", 1)]) (g := gName 1) (tt := tYes) rfl scTLooks.nd (pi_list (pe_call GLin (hr.mono (by decide)) rfl aLin.m aLin.k aLin.b .nil pass0 (pa_cons (pe_fld (pv 0) rfl) pa_nil))) (blkOk_by (own := [("look", 1)]) (N := ["self", "look"]) (sc := defScope sTLooks) (by decide +kernel)) (fun _ _ _ _ _ => (pg_name (i := 1) scTLooks.nd rfl (Or.inl rfl))) (fun _ _ _ _ _ => pts_nil) (fun _ _ _ _ _ => (by exact (pv 1))) (fun _ _ _ _ _ => (by exact pe_bl))) pa_nil))), ?_⟩
    refine ⟨_, rfl, o, C, dx, _, _, rfl, ho, S0.cl, S0.n1, lk_t1 _ _, u, t, [], rfl, hu2, dp, ok, ll, fun D1 H1 us s1 hD1 hu1' lk1 => ?_⟩
    refine ⟨D1, rfl, ⟨_, SqL.of hu1'⟩, fun D2 hD2 => ?_⟩
    have oks := looksM_ok dp ok
    have ul := lk1.1
    refine dc_it (walk_list (K := K) (a := D1) (xs := us)) (fun i H' => Same H1 H' ∧ H' D2 = some (.dT (dL (nubL ((looksM t).take i))))) ⟨same_mk hD2, upd_same⟩ (fun i H' _ q => SqL.of (q.1 _ _ hu1')) ?_ ?_
    · rintro i x H2 H3 hi ⟨s2, hd2⟩ ⟨rfl, hx⟩
      have hl : i < (looksM t).length := by rw [← ul]; exact hi
      have hki : (looksM t)[i]? = some (looksM t)[i] := List.getElem?_eq_getElem hl
      obtain ⟨b, rfl, hb⟩ := lk1.2 i x _ hx hki
      have nl := nub_len ((looksM t).take i)
      rw [List.length_take] at nl
      refine ⟨wipe1 _, ?_⟩
      refine ⟨_, rfl, dL (nubL ((looksM t).take i)), lkey (looksM t)[i], b, rfl, by rw [lkey_V]; exact s2 _ _ hb, hd2, Nat.lt_of_le_of_lt (show (dL (nubL ((looksM t).take i))).length ≤ 1000000 by unfold dL; rw [List.length_map]; omega) (by decide), ?_⟩
      rw [dL_put (fun x hx => (oks x (List.mem_of_mem_take (nub_mem.mp hx))).w) (oks _ (List.getElem_mem hl)).w, ← nub_take hki]
      exact ⟨same_ch s2 hD2, upd_same⟩
    · rintro H2 ⟨s2, hd2⟩
      rw [ul, List.take_length] at hd2
      refine ⟨D2, _, rfl, .inl hd2, fun p bs hp ks => ?_⟩
      have s3 := same_mk (o := .lst (bs.map V.ref)) hp
      have s13 := s1.trans (s2.trans s3)
      exact k p _ _ s13 ((s1.trans s2).free hp) upd_same ((isKeys_lks ks).up s3)
end
end T5

set_option maxHeartbeats 3900000
namespace T5
open PySem PySem.Spec PyProof.Rows L2 TL
open C8 (pss_cut tCut pe_gc)
open CB XW LE LR
abbrev sLLof : Stmt := top 43
theorem fold_put (a : List Lk) : ∀ (l b : List Lk), (l.foldl putL b).foldl putL a = l.foldl putL (b.foldl putL a)
  | [], b => rfl
  | k :: r, b => by
    rw [List.foldl_cons, List.foldl_cons, fold_put a r (putL b k)]
    congr 1
    by_cases h : k ∈ b
    · have h1 : putL b k = b := if_pos h
      have h2 : putL (b.foldl putL a) k = b.foldl putL a := if_pos (((foldl_putL b a).1 k).mpr (.inr h))
      rw [h1, h2]
    · have h1 : putL b k = b ++ [k] := if_neg h
      rw [h1, List.foldl_append]
      rfl
theorem nub_fold (l a : List Lk) : (nubL l).foldl putL a = l.foldl putL a := fold_put a l []
theorem any_lkD {ks : List Lk} {k : Lk} (kw : ∀ x ∈ ks, LkW x) (hk : LkW k) : (!(ks.map lkD).any fun z => PyData.eqv z (lkD k)) = decide (k ∉ ks) := by
  have e1 : ((ks.map lkD).any fun z => PyData.eqv z (lkD k)) = decide (k ∈ ks) := by
    rw [List.any_map, Bool.eq_iff_iff, List.any_eq_true, decide_eq_true_iff]
    constructor
    · rintro ⟨x, hx, e⟩
      have e2 := eqv_lk (kw x hx) hk
      rw [show PyData.eqv (lkD x) (lkD k) = true from e] at e2
      obtain rfl := of_decide_eq_true e2.symm
      exact hx
    · intro hx
      exact ⟨k, hx, (eqv_lk (kw k hx) (kw k hx)).trans (decide_eq_true rfl)⟩
  rw [e1, decide_not]
def spLLof (n : Nat) : Sp := fun vs H Q _ => ∃ v t ab, vs = [v] ∧ TrAt H v t ∧ dep t < n ∧ OkT ab t ∧ (looksM t).length ≤ 100000 ∧ ∀ D H' us, Same H H' → H D = none → H' D = some (.lst us) → LksT H' us (nubL (looksM t)) → Q (.ref D) H'
section
variable {P : Program} {w : World} {K : PySem.W.Frag} {mg : Str → Option Value} {base : Heap}
theorem scLLof : FnScope ["_law_tree_here", "_law_found", "_law_part", "_law_look_here", "_law_case"] ["_law_tree_here"] (defScope sLLof) := ⟨rfl, rfl, rfl, by decide +kernel, rfl, by decide +kernel, by decide +kernel⟩
theorem ok_llof {f : Addr} {fd : FuncData} (F : Fun K "_law_looks_of" "_law_looks_of" sLLof f fd) (T : TB mg) (aLLof : At K mg "_law_looks_of" f fd ["_law_tree_here"]) : ∀ n, FnOk P w K mg base CX0 n f fd ["_law_tree_here"] (spLLof n) := by
  intro n
  induction n with
  | zero =>
    refine ⟨fun vs H Q E h => ?_, fun A outer s H args us vs Q E hr he hb hv h => ?_⟩
    · obtain ⟨v, t, ab, rfl, _⟩ := h
      rfl
    · obtain ⟨v, t, ab, _, _, hd, _⟩ := h
      exact absurd hd (Nat.not_lt_zero _)
  | succ n GLLof =>
    refine F.ok scLLof (fun vs H Q E h => ?_) (fun cdv A outer s H vs Q E hr h => ?_)
    · obtain ⟨v, t, ab, rfl, _⟩ := h
      rfl
    · obtain ⟨v, t, ab, rfl, ht, hd, ok, ll, k⟩ := h
      have hrN : ∀ m, m ≤ n → Room m (A.deeper (envOfC "_law_looks_of" (defScope sLLof) s.heap.objs.size f cdv)) := fun m h => hr.mono h
      have hu5 := hr.un
      have hu5 : (A.deeper (envOfC "_law_looks_of" (defScope sLLof) s.heap.objs.size f cdv)).units + 65 < cLine := by omega
      refine ⟨_, pss_cons (ps_if (pt_cmpR op_eq (pe_ix ix_tup (pv 0) pe_int (fun _ _ => rfl)) pe_str (nomark _)) (pss_one (ps_ret (pe_lst pa_nil))) (pss_nil))
              (pss_cons (ps_set (i := 1) scLLof.nd rfl (Or.inl rfl) (pe_lst (pa_cons (pe_ix ix_tup (pv 0) pe_int (fun _ _ => rfl)) pa_nil)))
              (pss_cons (ps_for PassesOwn.never rfl (pi_list (pe_op op_cat (pe_lc (own := [("_law_case", 4)]) (g := gName 4) (tt := tYes) rfl scLLof.nd (pi_tup (pe_ix ix_tup (pv 0) pe_int (fun _ _ => rfl))) (blkOk_by (own := [("_law_case", 4)]) (N := ["_law_tree_here", "_law_found", "_law_part", "_law_look_here", "_law_case"]) (sc := defScope sLLof) (by decide +kernel)) (fun _ _ _ _ _ => (pg_name (i := 4) scLLof.nd rfl (Or.inl rfl))) (fun _ _ _ _ _ => pts_nil) (fun _ _ _ _ _ => (by exact (pe_ix (ix_tupK (K0 := K) rfl) (pv 4) pe_int (fun _ _ => rfl))))) (pe_lst (pa_cons (pe_ix ix_tup (pv 0) pe_int (fun _ _ => rfl)) pa_nil)))) (pg_name (i := 2) scLLof.nd rfl (Or.inl rfl)) (pss_one (ps_for PassesOwn.never rfl (pi_list (pe_call GLLof (hrN _ (by omega)) rfl aLLof.m aLLof.k aLLof.b .nil pass0 (pa_cons (pv 2) pa_nil))) (pg_name (i := 3) scLLof.nd rfl (Or.inl rfl)) (pss_one (ps_expr (pe_bm PySem.F.plainAttrs_list PySem.F.slot_list_extend PySem.F.type_list_extend mt_extend (pv 1) (pa_cons (pe_op op_rep (pe_lst (pa_cons (pv 3) pa_nil)) (pe_callTy call_int1 (by rfl) T.int (by decide +kernel) (pa_cons (pe_cmpR (op_notInD hu5) (pv 3) (pv 1) (by rfl)) pa_nil))) pa_nil)))))))
              (pss_one (ps_ret (pv 1))))), ?_⟩
      cases ht with
      | @fin p z r =>
        refine ⟨_, rfl, p, _, 0, _, rfl, rfl, SqT.of r, atI_nat (j := 0) rfl, rfl, _, rfl, iteT ⟨by show 0 ≤ sizeLine; decide, fun D hD => ?_⟩⟩
        exact k D _ [] (same_mk hD) hD upd_same ⟨rfl, fun i v k h => by simp [nubL, looksM] at h⟩
      | @ask p kp cp ov xs kk cs o r rk rc cc to =>
        have pd := parts_dep hd ok
        have lko := looksM_ok hd ok
        obtain ⟨lok, nin, nd, cl, okc, oko⟩ := ok
        obtain ⟨zs, e1, e2, e3⟩ := cs_zip2 cc
        subst e1
        refine ⟨_, rfl, p, _, 0, _, rfl, rfl, SqT.of r, atI_nat (j := 0) rfl, rfl, _, rfl, iteF ?_⟩
        refine ⟨_, rfl, p, _, 1, _, rfl, rfl, SqT.of r, atI_nat (j := 1) rfl, by show 1 ≤ sizeLine; decide, fun D hD => ?_⟩
        have s1 := same_mk (o := .lst [.ref kp]) hD
        have hDD := upd_same (H := H) (a := D) (o := .lst [.ref kp])
        generalize upd H D (.lst [.ref kp]) = H1 at s1 hDD ⊢
        have zl : zs.length ≤ 100 := by rw [← e2, List.length_map] at cl; exact cl
        refine ⟨_, rfl, p, _, 2, _, rfl, rfl, SqT.of (s1 _ _ r), atI_nat (j := 2) rfl, cp, rfl, ⟨_, SqT.of (s1 _ _ rc)⟩, fun D1 hD1 => ?_⟩
        refine lcW (walk_tup (K := K) (a := cp) (xs := zs.map fun z => V.ref z.row)) (zs.map fun z => z.tv) (by rw [List.length_map, List.length_map]) (by rw [List.length_map]; omega) hD1 (fun H' s => SqT.of (s _ _ (s1 _ _ rc))) ?_ ?_
        · rintro m x y H2 H3 hy s2 ⟨rfl, hx⟩ Q1 q1
          obtain ⟨z, hz, rfl, rfl⟩ := map_two hx hy
          refine ⟨_, rfl, z.row, _, 1, _, rfl, rfl, SqT.of (s2 _ _ (s1 _ _ (e3 z hz).1)), atI_nat (j := 1) rfl, q1 _ (Same.refl _)⟩
        · intro H2 s2 hD2
          have s12 := s1.trans s2
          refine ⟨_, rfl, p, _, 3, _, rfl, rfl, SqT.of (s12 _ _ r), atI_nat (j := 3) rfl, by show 1 ≤ sizeLine; decide, fun D3 hD3 => ?_⟩
          have s3 := same_mk (o := .lst [ov]) hD3
          have h3 := upd_same (H := H2) (a := D3) (o := .lst [ov])
          generalize upd H2 D3 (.lst [ov]) = H3 at s3 h3 ⊢
          refine ⟨D1, D3, _, [ov], rfl, rfl, s3 _ _ hD2, h3, Nat.le_trans (show (zs.map fun z => z.tv).length + 1 ≤ 1000 by rw [List.length_map]; omega) (by decide), fun D4 hD4 => ?_⟩
          have s4 := same_mk (o := .lst ((zs.map fun z => z.tv) ++ [ov])) hD4
          have h4 := upd_same (H := H3) (a := D4) (o := .lst ((zs.map fun z => z.tv) ++ [ov]))
          generalize upd H3 D4 (.lst ((zs.map fun z => z.tv) ++ [ov])) = H4 at s4 h4 ⊢
          have s24 := (s2.trans s3).trans s4
          have s04 := s1.trans s24
          generalize hus : (zs.map fun z => z.tv) ++ [ov] = us at h4
          have tu : TrsAt H4 us (partsM cs o) := by
            subst hus
            subst e2
            refine ⟨by unfold partsM; rw [List.length_append, List.length_append, List.length_map, List.length_map, List.length_map]; rfl, fun i v t hv ht => ?_⟩
            unfold partsM at ht
            rw [List.map_map] at ht
            by_cases lt : i < zs.length
            · rw [List.getElem?_append_left (by rw [List.length_map]; exact lt)] at hv ht
              rw [List.getElem?_map, List.getElem?_eq_getElem lt] at hv ht
              cases hv
              cases ht
              exact (e3 _ (List.getElem_mem lt)).2.2.up s04
            · rw [List.getElem?_append_right (by rw [List.length_map]; omega), List.length_map] at hv ht
              have l1 := (List.getElem?_eq_some_iff.mp hv).1
              rw [List.length_singleton] at l1
              rw [show i - zs.length = 0 by omega] at hv ht
              cases hv
              cases ht
              exact to.up s04
          have lP : (looksM (.ask kk cs o)) = kk :: looksP (partsM cs o) := looks_ask kk cs o
          have lN : (looksP (partsM cs o)).length < 100000 := by rw [lP, List.length_cons] at ll; omega
          have acc1 : ∀ i (hi : i < (partsM cs o).length), (looksP ((partsM cs o).take (i + 1))).foldl putL [kk] = (nubL (looksM (partsM cs o)[i])).foldl putL ((looksP ((partsM cs o).take i)).foldl putL [kk]) := fun i hi => by
            rw [nub_fold, ← List.foldl_append]
            congr 1
            unfold looksP
            rw [List.take_succ, List.getElem?_eq_getElem hi, List.map_append, List.flatten_append]
            simp
          have mono : ∀ i, (looksP ((partsM cs o).take i)).length ≤ (looksP (partsM cs o)).length := fun i => by
            unfold looksP
            rw [List.map_take, ← List.take_append_drop i ((partsM cs o).map looksM), List.flatten_append, List.length_append, List.take_append_drop]
            exact Nat.le_add_right _ _
          have hD24 := s24 _ _ hDD
          have nD : D ≠ D4 := fun e => by rw [← e, (s2.trans s3) _ _ hDD] at hD4; cases hD4
          have wAll : ∀ i, ∀ x ∈ (looksP ((partsM cs o).take i)).foldl putL [kk], LkW x := fun i x hx => by
            rcases ((foldl_putL (looksP ((partsM cs o).take i)) [kk]).1 x).mp hx with h | h
            · rw [List.mem_singleton.mp h]
              exact lok.w
            · refine (lko x ?_).w
              rw [lP]
              refine List.mem_cons_of_mem _ ?_
              unfold looksP at h ⊢
              obtain ⟨l, hl, hk⟩ := List.mem_flatten.mp h
              obtain ⟨t, ht, rfl⟩ := List.mem_map.mp hl
              exact List.mem_flatten.mpr ⟨_, List.mem_map.mpr ⟨t, List.mem_of_mem_take ht, rfl⟩, hk⟩
          refine ⟨D4, rfl, ⟨_, SqL.of h4⟩, for_it (walk_list (K := K) (a := D4) (xs := us)) (fun i σ H' => ∃ x2 x3 x4 ls, σ = [some (.ref p), some (.ref D), x2, x3, x4] ∧ (∀ b u, b ≠ D → H4 b = some u → H' b = some u) ∧ H' D = some (.lst ls) ∧ LksT H' ls ((looksP ((partsM cs o).take i)).foldl putL [kk]))
            ⟨_, _, _, [.ref kp], rfl, fun b u _ h => h, hD24, ⟨rfl, fun i v k a b => ?_⟩⟩ (fun i σ H' _ q => ?_) ?_ ?_⟩
          · match i, a, b with
            | 0, a, b => cases a; cases b; exact ⟨kp, rfl, s04 _ _ rk⟩
            | i + 1, a, b => simp at a
          · obtain ⟨_, _, _, _, _, kp', _⟩ := q
            exact SqL.of (kp' _ _ nD.symm h4)
          · rintro i x σ H5 H6 hi ⟨x2, x3, x4, ls, rfl, kp5, hD5, lk5⟩ ⟨rfl, hx⟩
            have hl : i < (partsM cs o).length := by rw [← tu.1]; exact hi
            have hpi : (partsM cs o)[i]? = some (partsM cs o)[i] := List.getElem?_eq_getElem hl
            have ht6 := tu.2 i x _ hx hpi
            obtain ⟨pd1, pd2⟩ := pd _ (List.getElem_mem hl)
            have tb : TupS H4 H6 := fun b xs e => kp5 _ _ (ne_of e hD24 (by intro z; cases z)) e
            have etk : looksP ((partsM cs o).take (i + 1)) = looksP ((partsM cs o).take i) ++ looksM (partsM cs o)[i] := by
              unfold looksP
              rw [List.take_succ, hpi, List.map_append, List.flatten_append]
              simp
            have m1 := mono (i + 1)
            have l1 := (foldl_putL (looksP ((partsM cs o).take i)) [kk]).2
            rw [etk, List.length_append] at m1
            have ac := acc1 i hl
            have wi := wAll i
            have wi1 := wAll (i + 1)
            generalize (looksP ((partsM cs o).take i)).foldl putL [kk] = acc at ac lk5 wi l1
            refine ⟨_, rfl, x, (partsM cs o)[i], _, rfl, TrAt.tup tb ht6, pd1, pd2, by omega, fun D5 H7 us5 s7 hD50 hu5' lk7 => ?_⟩
            have nl := nub_len (looksM (partsM cs o)[i])
            have lkw2 : ∀ q ∈ nubL (looksM (partsM cs o)[i]), LkW q := fun q hq => wi1 q (by rw [ac]; exact ((foldl_putL _ _).1 q).mpr (.inr hq))
            generalize nubL (looksM (partsM cs o)[i]) = nl5 at lk7 ac nl lkw2
            have hD7 := s7 _ _ hD5
            have n5 : D5 ≠ D := fun e => by rw [e, hD5] at hD50; cases hD50
            rw [List.length_singleton] at l1
            refine ⟨D5, rfl, ⟨_, SqL.of hu5'⟩, for_it (walk_list (K := K) (a := D5) (xs := us5)) (fun j σ H' => ∃ x3 ls, σ = [some (.ref p), some (.ref D), some x, x3, x4] ∧ (∀ b u, b ≠ D → H7 b = some u → H' b = some u) ∧ H' D = some (.lst ls) ∧ LksT H' ls ((nl5.take j).foldl putL acc))
              ⟨x3, ls, rfl, fun b u _ h => h, hD7, lk5.up s7⟩ (fun j σ H' _ q => ?_) ?_ ?_⟩
            · obtain ⟨_, _, _, kp', _⟩ := q
              exact SqL.of (kp' _ _ n5 hu5')
            · rintro j y σ H8 H9 hj ⟨x3, ls8, rfl, kp8, hD8, lk8⟩ ⟨rfl, hy⟩
              have hlj : j < nl5.length := by rw [← lk7.1]; exact hj
              have hkj : nl5[j]? = some nl5[j] := List.getElem?_eq_getElem hlj
              obtain ⟨b, rfl, hb7⟩ := lk7.2 j y _ hy hkj
              have hb : H9 b = some (.tup (lkV nl5[j])) := kp8 _ _ (ne_of hb7 hD7 (by intro z; cases z)) hb7
              have kw2 : LkW nl5[j] := lkw2 _ (List.getElem_mem hlj)
              have etj : (nl5.take (j + 1)).foldl putL acc = putL ((nl5.take j).foldl putL acc) nl5[j] := by
                rw [List.take_succ, hkj, List.foldl_append]
                rfl
              have l8 := (foldl_putL (nl5.take j) acc).2
              rw [List.length_take] at l8
              have kw : ∀ q ∈ (nl5.take j).foldl putL acc, LkW q := fun q hq => by
                rcases ((foldl_putL (nl5.take j) acc).1 q).mp hq with h | h
                · exact wi q h
                · exact lkw2 q (List.mem_of_mem_take h)
              rw [etj]
              generalize (nl5.take j).foldl putL acc = ac8 at lk8 l8 kw ⊢
              generalize nl5[j] = kq at hb kw2 ⊢
              refine ⟨_, rfl, .inl ⟨rfl, _, SqL.of hD8⟩, _, rfl, by show 1 ≤ sizeLine; decide, fun q hq => ?_⟩
              have sq := same_mk (o := .lst [.ref b]) hq
              have hq' := upd_same (H := H9) (a := q) (o := .lst [.ref b])
              generalize upd H9 q (.lst [.ref b]) = HA at sq hq' ⊢
              have lkA := lk8.up sq
              have hDA := sq _ _ hD8
              refine ⟨_, rfl, _, rfl, lkD kq, ac8.map lkD, lk_dp (sq _ _ hb), .lst (SqL.of hDA) (dp_lks lkA.1 lkA.2), lkD_shaped kw2, shaped_lks ac8 kw, .inr ⟨_, rfl, q, _, [.ref b], rfl, rfl, hq', ?_⟩⟩
              rw [any_lkD kw kw2]
              have ll8 := lkA.1
              by_cases m : kq ∈ ac8
              · rw [decide_eq_false (show ¬ kq ∉ ac8 from fun n => n m)]
                refine ⟨by decide, by decide, Nat.zero_le _, fun r hr' => ?_⟩
                have sr := same_mk (o := .lst (List.replicate (if false = true then 1 else 0 : Int).toNat [V.ref b]).flatten) hr'
                refine ⟨D, r, ls8, _, rfl, rfl, sr _ _ hDA, upd_same, Nat.le_trans (show ls8.length + 0 ≤ 1000000 by omega) (by decide), ?_⟩
                have hDr := sr _ _ hDA
                have tb6 : TupS _ (upd (upd HA r (.lst (List.replicate (if false = true then 1 else 0 : Int).toNat [V.ref b]).flatten)) D (.lst (ls8 ++ []))) := tupS_put hDr fun xs z => by cases z
                have gen : ∀ X, LksT X ls8 ac8 → LksT X (ls8 ++ []) ac8 := fun X h => by rw [List.append_nil]; exact h
                refine ⟨_, ls8 ++ [], rfl, fun c u nc hc => ?_, upd_same, ?_⟩
                · rw [upd_ne nc]
                  exact sr _ _ (sq _ _ (kp8 _ _ nc hc))
                · rw [show putL ac8 kq = ac8 from if_pos m]
                  exact gen _ ((lkA.up sr).tup tb6)
              · rw [decide_eq_true m]
                refine ⟨by decide, by decide, by show 1 ≤ sizeLine; decide, fun r hr' => ?_⟩
                have sr := same_mk (o := .lst (List.replicate (if true = true then 1 else 0 : Int).toNat [V.ref b]).flatten) hr'
                refine ⟨D, r, ls8, [.ref b], rfl, rfl, sr _ _ hDA, upd_same, Nat.le_trans (show ls8.length + 1 ≤ 1000000 by omega) (by decide), ?_⟩
                have hDr := sr _ _ hDA
                have tb6 : TupS _ (upd (upd HA r (.lst (List.replicate (if true = true then 1 else 0 : Int).toNat [V.ref b]).flatten)) D (.lst (ls8 ++ [V.ref b]))) := tupS_put hDr fun xs z => by cases z
                refine ⟨_, ls8 ++ [.ref b], rfl, fun c u nc hc => ?_, upd_same, ?_⟩
                · rw [upd_ne nc]
                  exact sr _ _ (sq _ _ (kp8 _ _ nc hc))
                · rw [show putL ac8 kq = ac8 ++ [kq] from if_neg m]
                  exact ((lkA.up sr).snoc (sr _ _ (sq _ _ hb))).tup tb6
            · rintro σ H8 ⟨x3, ls8, rfl, kp8, hD8, lk8⟩
              rw [lk7.1, List.take_length, ← ac] at lk8
              exact ⟨_, _, _, ls8, rfl, fun b u nb hb => kp8 _ _ nb (s7 _ _ (kp5 _ _ nb hb)), hD8, lk8⟩
          · rintro σ H5 ⟨x2, x3, x4, ls, rfl, kp5, hD5, lk5⟩
            rw [tu.1, List.take_length] at lk5
            refine ⟨_, rfl, k D H5 ls (fun b u hb => kp5 _ _ (fun e => by rw [e, hD] at hb; cases hb) (s04 _ _ hb)) hD hD5 ?_⟩
            rw [lP]
            exact lk5
end
end T5

set_option maxHeartbeats 3900000
namespace T5
open PySem PySem.Spec PyProof.Rows L2 TL
open C8 (pss_cut tCut pe_gc)
open CB XW LE LR
abbrev sLTurn : Stmt := top 44
def spMixedT : Sp := fun vs H Q _ => ∃ (α : Type) (u : α → V) (st l p : Addr) (c : Nat) (zs : List α), vs = [.ref st, .ref p] ∧ Strm H st l c ∧ c ≤ 900000 ∧ H p = some (.tup (zs.map u)) ∧ zs.length < 1000 ∧
  ∀ (D : Addr) (ys : List α) (H' : Hp), ys.Perm zs → H D = none → H' D = some (.lst (ys.map u)) → D ≠ st → D ≠ l → But st l H H' → Strm H' st l (c + zs.length) → Q (.ref D) H'

theorem lkC_mem {cs : Cs} (nd : (cs.map (·.1)).Nodup) {a : An} {t : Tr} (h : (a, t) ∈ cs) : lkC cs a = some t := by
  induction cs with
  | nil => cases h
  | cons c r ih =>
    rw [List.map_cons, List.nodup_cons] at nd
    unfold lkC
    rw [List.find?_cons]
    rcases List.mem_cons.mp h with rfl | h
    · rw [decide_eq_true rfl]
      rfl
    · have ne : c.1 ≠ a := fun e => nd.1 (by rw [e]; exact List.mem_map.mpr ⟨_, h, rfl⟩)
      rw [decide_eq_false ne]
      exact ih nd.2 h
theorem same_ask {k : Lk} {cs cs' : Cs} {o o' : Tr} (l : cs.length = cs'.length) (h : ∀ c ∈ cs, ∃ t', lkC cs' c.1 = some t' ∧ sameT c.2 t' = true) (ho : sameT o o' = true) : sameT (.ask k cs o) (.ask k cs' o') = true := by
  have hc : sameC cs cs' = true := by
    rw [sameC_all, List.all_eq_true]
    intro c hc
    obtain ⟨t', e, s⟩ := h c hc
    unfold oneC
    rw [e]
    exact s
  simp [sameT, l, hc, ho]
theorem same_self {n : Nat} : ∀ {t : Tr} {ab : List Lk}, dep t < n → OkT ab t → sameT t t = true := by
  induction n with
  | zero => intro t ab h; exact absurd h (Nat.not_lt_zero _)
  | succ n ih =>
    intro t ab h ok
    cases t with
    | fin z => simp [sameT]
    | ask k cs o =>
      have pd := parts_dep h ok
      obtain ⟨_, _, nd, _, _, _⟩ := ok
      refine same_ask rfl (fun c hc => ⟨c.2, lkC_mem nd hc, ?_⟩) ?_
      · obtain ⟨d, o2⟩ := pd c.2 (List.mem_append_left _ (List.mem_map.mpr ⟨c, hc, rfl⟩))
        exact ih d o2
      · obtain ⟨d, o2⟩ := pd o (List.mem_append_right _ (List.mem_singleton.mpr rfl))
        exact ih d o2
theorem parts_mem {cs : Cs} {o : Tr} {a : An} {t : Tr} (h : (a, t) ∈ cs) : t ∈ partsM cs o := List.mem_append_left _ (List.mem_map.mpr ⟨_, h, rfl⟩)
theorem okC_of {ab : List Lk} {k : Lk} : ∀ {cs : Cs}, (∀ c ∈ cs, SiOk' (k, c.1) ∧ OkT (ab ++ [k]) c.2) → OkC ab k cs
  | [], _ => trivial
  | (a, t) :: r, h => ⟨(h _ List.mem_cons_self).1, (h _ List.mem_cons_self).2, okC_of fun c hc => h c (List.mem_cons_of_mem _ hc)⟩
theorem csAt_of {H : Hp} : ∀ {zs : List Cz}, (∀ z ∈ zs, H z.row = some (.tup [z.av, z.tv]) ∧ AnAt H z.av z.an ∧ TrAt H z.tv z.tr) → CsAt H (zs.map fun z => V.ref z.row) (zs.map fun z => (z.an, z.tr))
  | [], _ => .nil
  | z :: r, h => .cons (h _ List.mem_cons_self).1 (h _ List.mem_cons_self).2.1 (h _ List.mem_cons_self).2.2 (csAt_of fun c hc => h c (List.mem_cons_of_mem _ hc))
structure RzP (ab : List Lk) (k : Lk) (z r : Cz) : Prop where
  an : r.an = z.an
  sm : sameT z.tr r.tr = true
  ok : OkT (ab ++ [k]) r.tr
  dp : dep r.tr ≤ dep z.tr
def CzA (H : Hp) (z : Cz) : Prop := H z.row = some (.tup [z.av, z.tv]) ∧ AnAt H z.av z.an ∧ TrAt H z.tv z.tr
theorem CzA.tup {H H' : Hp} {z : Cz} (h : CzA H z) (s : TupS H H') : CzA H' z := ⟨s _ _ h.1, h.2.1.tup s, TrAt.tup s h.2.2⟩
def dT : Nat → Nat
  | 0 => 0
  | n + 1 => 3 + 4 * dT n
def spTurn (n : Nat) : Sp := fun vs H Q _ => ∃ (st l : Addr) (c : Nat) (v : V) (t : Tr) (ab : List Lk) (zs : List Str), vs = [.ref st, v] ∧ Strm H st l c ∧ c + dT n ≤ 800000 ∧ TrAt H v t ∧ dep t < n ∧ OkT ab t ∧ OnT zs t ∧ ∀ v' t' H' c', TrAt H' v' t' → sameT t t' = true → OkT ab t' → dep t' ≤ dep t → But st l H H' → Strm H' st l c' → c' ≤ c + dT n → Q v' H'
section
variable {P : Program} {w : World} {K : PySem.W.Frag} {mg : Str → Option Value} {base : Heap} {fD : Addr} {fdD : FuncData}
theorem ok_mixedT {f : Addr} {fd : FuncData} (F : Fun K "_law_mixed" "_law_mixed" sMixed f fd) (T : TB mg) (aD : aD' K mg fD fdD) (GD : FnOk P w K mg base CX0 1 fD fdD ["_law_stream", "_law_many"] spDraw) : FnOk P w K mg base CX0 2 f fd ["_law_stream", "_law_things"] spMixedT := by
  refine F.ok scMx (fun vs H Q E h => ?_) (fun cdv A outer s H vs Q E hr h => ?_)
  · obtain ⟨α, u0, st, l, p, c, zs, rfl, _⟩ := h
    rfl
  · obtain ⟨α, u0, st, l, p, c, zs, rfl, S, hc, hp, z1, k⟩ := h
    refine ⟨_, pss_cons (ps_set (i := 2) scMx.nd rfl (Or.inr rfl) (pe_callTy call_list_of (by rfl) T.list (by decide +kernel) (pa_cons (pv 1) pa_nil)))
            (pss_one (ps_ret (pe_lc (own := [("_law_k", 3)]) (g := gName 3) (tt := tYes) rfl scMx.nd (pi_range1 rfl T.range (pa_cons (pe_callB call_len_seq (by rfl) T.len PySem.boot_len (pa_cons (pv 2) pa_nil)) pa_nil)) (blkOk_by (own := [("_law_k", 3)]) (N := ["_law_stream", "_law_things", "_law_left", "_law_k"]) (sc := defScope sMixed) (by decide +kernel)) (fun _ _ _ _ _ => (pg_name (i := 3) scMx.nd rfl (Or.inl rfl))) (fun _ _ _ _ _ => pts_nil) (fun _ _ _ _ _ => (by exact (pe_bmK K rfl PySem.F.plainAttrs_list PySem.F.slot_list_pop PySem.F.type_list_pop mt_popAt (pv 2) (pa_cons (pe_call GD (hr.mono (by decide)) rfl aD.m aD.k aD.b .nil pass0 (pa_cons (pv 0) (pa_cons (pe_callB (len_seqK (K0 := K) rfl) (by rfl) T.len PySem.boot_len (pa_cons (pv 2) pa_nil)) pa_nil))) pa_nil))))))), ?_⟩
    refine ⟨_, rfl, p, _, rfl, .inr (SqT.of hp), fun u hu => ?_⟩
    have nu := S.ne_new hu
    have S0 := S.up (same_mk (o := .lst (zs.map u0)) hu)
    refine ⟨_, rfl, u, _, rfl, .inl (SqL.of upd_same), _, rfl, by omega, by rw [List.length_map]; omega, fun D hD => ?_⟩
    rw [List.length_map]
    have nD := S0.ne_new hD
    have uD : u ≠ D := ne_of_none upd_same hD
    have s01 : Same H (upd H u (.lst (zs.map u0))) := same_mk hu
    have hDH : H D = none := s01.free hD
    refine lc_range (lo := 0) (n := ((zs.length : Nat) : Int).toNat) (fun i H' => But st l H H' ∧ Strm H' st l (c + i) ∧ ∃ rem ys : List α, ys.length = i ∧ (ys ++ rem).Perm zs ∧ H' u = some (.lst (rem.map u0)) ∧ H' D = some (.lst (ys.map u0)))
      ⟨But.same (s01.trans (same_mk hD)), S0.up (same_mk hD), zs, [], rfl, List.Perm.refl _, by rw [upd_ne uD]; exact upd_same, upd_same⟩ ?_ ?_
    · rintro i H' hi ⟨B', S', rem, ys, hy, pm, hu', hD'⟩
      have hi' : i < zs.length := by simpa using hi
      have rl : rem.length = zs.length - i := by
        have := pm.length_eq
        rw [List.length_append] at this
        omega
      refine ⟨rfl, _, rfl, .inl ⟨rfl, _, SqL.of hu'⟩, _, rfl, _, rfl, u, _, rfl, .inl (SqL.of hu'), st, l, c + i, _, rfl, S', by omega, by rw [List.length_map]; omega, by rw [List.length_map]; omega, fun d H'' d0 d1 B'' S'' => ?_⟩
      rw [List.length_map] at d1
      obtain ⟨m, rfl⟩ := Int.eq_ofNat_of_zero_le d0
      have hm : m < rem.length := by omega
      have hu2 := B'' _ _ hu' nu.1 nu.2
      have hD2 := B'' _ _ hD' nD.1 nD.2
      have sx : seqIndex? (m : Int) (rem.map u0).length = some m := by
        rw [List.length_map]
        have h0 : ¬ ((m : Int) < 0) := by omega
        simp [seqIndex?, h0, hm]
      refine ⟨u, _, m, m, u0 rem[m], rfl, rfl, hu2, by omega, by omega, sx, by rw [List.getElem?_map, List.getElem?_eq_getElem hm]; rfl, _, by rw [upd_ne uD.symm]; exact hD2, ?_, ?_, ?_, rem.eraseIdx m, ys ++ [rem[m]], ?_, ?_, ?_, ?_⟩
      · rw [List.length_map, hy]
        exact Nat.lt_of_lt_of_le (show i < 1000 by omega) (by decide)
      · intro b o hb n1 n2
        by_cases e1 : b = D
        · rw [e1, hDH] at hb
          cases hb
        · rw [upd_ne e1]
          by_cases e2 : b = u
          · rw [e2, hu] at hb
            cases hb
          · rw [upd_ne e2]
            exact B'' _ _ (B' _ _ hb n1 n2) n1 n2
      · exact (S''.put nu).put nD
      · rw [List.length_append, hy]
        rfl
      · rw [List.append_assoc]
        exact (List.Perm.append_left ys (erA_perm rem m hm)).trans pm
      · rw [upd_ne uD, upd_same, erA_map]
      · rw [upd_same, List.map_append]
        rfl
    · rintro H' ⟨B', S', rem, ys, hy, pm, hu', hD'⟩
      have hy' : ys.length = zs.length := by simpa using hy
      have rl : rem.length = 0 := by
        have := pm.length_eq
        rw [List.length_append] at this
        omega
      rw [List.length_eq_zero_iff.mp rl, List.append_nil] at pm
      exact k D ys H' pm hDH hD' nD.1 nD.2 B' (by simpa using S')
theorem scLTurn : FnScope ["_law_stream", "_law_tree_here", "_law_cases", "_law_answer", "_law_part"] ["_law_stream", "_law_tree_here"] (defScope sLTurn) := ⟨rfl, rfl, rfl, by decide +kernel, rfl, by decide +kernel, by decide +kernel⟩
theorem ok_turn {f fM : Addr} {fd fdM : FuncData} (F : Fun K "_law_turned" "_law_turned" sLTurn f fd) (T : TB mg) (aLTurn : At K mg "_law_turned" f fd ["_law_stream", "_law_tree_here"]) (aMixed : At K mg "_law_mixed" fM fdM ["_law_stream", "_law_things"]) (GMixed : FnOk P w K mg base CX0 2 fM fdM ["_law_stream", "_law_things"] spMixedT) : ∀ n, FnOk P w K mg base CX0 (n + 3) f fd ["_law_stream", "_law_tree_here"] (spTurn n) := by
  intro n
  induction n with
  | zero =>
    refine ⟨fun vs H Q E h => ?_, fun A outer s H args us vs Q E hr he hb hv h => ?_⟩
    · obtain ⟨st, l, c, v, t, ab, zs, rfl, _⟩ := h
      rfl
    · obtain ⟨st, l, c, v, t, ab, zs, _, _, _, _, hd, _⟩ := h
      exact absurd hd (Nat.not_lt_zero _)
  | succ n GLTurn =>
    refine F.ok scLTurn (fun vs H Q E h => ?_) (fun cdv A outer s H vs Q E hr h => ?_)
    · obtain ⟨st, l, c, v, t, ab, zs, rfl, _⟩ := h
      rfl
    · obtain ⟨st, l, c, v, t, ab, zs0, rfl, S, hc, ht, hd, ok, on, k⟩ := h
      have hrN : ∀ m, m ≤ n + 3 → Room m (A.deeper (envOfC "_law_turned" (defScope sLTurn) s.heap.objs.size f cdv)) := fun m h => hr.mono h
      refine ⟨_, pss_cons (ps_if (pt_cmpR op_eq (pe_ix ix_tup (pv 1) pe_int (fun _ _ => rfl)) pe_str (nomark _)) (pss_one (ps_ret (pv 1))) (pss_nil))
              (pss_cons (ps_setLc (i := 2) (own := [("_law_answer", 3), ("_law_part", 4)]) (g := gTup K 2 (gCons (gName 3) (gCons (gName 4) gNil))) (tt := tYes) rfl scLTurn.nd rfl rfl (sw_true rfl rfl rfl (by decide +kernel)) (pi_list (pe_call GMixed (hrN _ (by omega)) rfl aMixed.m aMixed.k aMixed.b .nil pass0 (pa_cons (pv 0) (pa_cons (pe_ix ix_tup (pv 1) pe_int (fun _ _ => rfl)) pa_nil)))) (blkOk_by (own := [("_law_answer", 3), ("_law_part", 4)]) (N := ["_law_stream", "_law_tree_here", "_law_cases", "_law_answer", "_law_part"]) (sc := defScope sLTurn) (by decide +kernel)) (fun _ _ _ _ _ => (pg_tupK (K0 := K) rfl rfl (pgs_cons (pg_name (i := 3) scLTurn.nd rfl (Or.inl rfl)) (pgs_cons (pg_name (i := 4) scLTurn.nd rfl (Or.inl rfl)) pgs_nil)))) (fun _ _ _ _ _ => pts_nil) (fun _ _ _ _ _ => (by exact (pe_tup (pa_cons (pv 3) (pa_cons (pe_call GLTurn (hrN _ (by omega)) rfl aLTurn.m aLTurn.k aLTurn.b .nil pass0 (pa_cons (pv 0) (pa_cons (pv 4) pa_nil))) pa_nil))))))
              (pss_one (ps_ret (pe_tup (pa_cons pe_str (pa_cons (pe_ix ix_tup (pv 1) pe_int (fun _ _ => rfl)) (pa_cons (pe_callTy call_tuple_of (by rfl) T.tuple (by decide +kernel) (pa_cons (pv 2) pa_nil)) (pa_cons (pe_call GLTurn (hrN _ (by omega)) rfl aLTurn.m aLTurn.k aLTurn.b .nil pass0 (pa_cons (pv 0) (pa_cons (pe_ix ix_tup (pv 1) pe_int (fun _ _ => rfl)) pa_nil))) pa_nil)))))))), ?_⟩
      have edT : dT (n + 1) = 3 + 4 * dT n := rfl
      cases ht with
      | @fin p z r =>
        refine ⟨_, rfl, p, _, 0, _, rfl, rfl, SqT.of r, atI_nat (j := 0) rfl, rfl, _, rfl, iteT ⟨_, rfl, ?_⟩⟩
        exact k _ _ H c (.fin r) (by simp [sameT]) ok (Nat.le_refl _) (But.same (Same.refl H)) S (by omega)
      | @ask p kp cp ov xs kk cs o r rk rc cc to =>
        have pd := parts_dep hd ok
        obtain ⟨lok, nin, nd, cl, okc, oko⟩ := ok
        obtain ⟨_, cl3, onc, ono⟩ := on
        obtain ⟨zs, e1, e2, e3⟩ := cs_zip2 cc
        subst e1
        have zl : zs.length ≤ 3 := by rw [← e2, List.length_map] at cl3; exact cl3
        refine ⟨_, rfl, p, _, 0, _, rfl, rfl, SqT.of r, atI_nat (j := 0) rfl, rfl, _, rfl, iteF ?_⟩
        refine ⟨_, rfl, _, rfl, p, _, 2, _, rfl, rfl, SqT.of r, atI_nat (j := 2) rfl, Cz, (fun z => V.ref z.row), st, l, cp, c, zs, rfl, S, by omega, rc, by omega, fun DM ys H1 pm hDM0 hDM n1 n2 B1 S1 => ?_⟩
        have yl := pm.length_eq
        refine ⟨DM, rfl, ⟨_, SqL.of hDM⟩, fun D hD => ?_⟩
        have nD := S1.ne_new hD
        have s1 := same_mk (o := .lst []) hD
        have zin : ∀ j z, ys[j]? = some z → z ∈ zs := fun j z h => pm.mem_iff.mp (List.mem_of_getElem? h)
        have DM0 : DM ≠ D := ne_of_none hDM hD
        have tb1 := tup_but S B1
        refine lc_it (walk_list (K := K) (a := DM) (xs := ys.map fun z => V.ref z.row)) (fun i H' => But st l H1 H' ∧ (∃ c', Strm H' st l c' ∧ c' ≤ c + zs.length + i * dT n) ∧ ∃ rs : List Cz, rs.length = i ∧ H' D = some (.lst (rs.map fun r => V.ref r.row)) ∧ (∀ (j : Nat) (z r : Cz), ys[j]? = some z → rs[j]? = some r → RzP ab kk z r) ∧ ∀ r ∈ rs, CzA H' r)
          ⟨But.same s1, ⟨_, S1.up s1, by omega⟩, [], rfl, upd_same, fun j z r _ h => by simp at h, fun r h => by cases h⟩ (fun i H' _ q => SqL.of (q.1 _ _ hDM n1 n2)) ?_ ?_
        · rintro i x H2 H3 hi ⟨B2, ⟨c2, S2, hc2⟩, rs, rl, hD2, rz, ra⟩ ⟨rfl, hx⟩
          rw [List.length_map] at hi
          have hz : ys[i]? = some ys[i] := List.getElem?_eq_getElem hi
          rw [List.getElem?_map, hz] at hx
          cases hx
          have zm := zin _ _ hz
          have hcz : CzA H3 ys[i] := (CzA.tup (e3 _ zm) tb1).tup (tup_but S1 B2)
          have cm : (ys[i].an, ys[i].tr) ∈ cs := by rw [← e2]; exact List.mem_map.mpr ⟨_, zm, rfl⟩
          have tp := parts_mem cm (o := o)
          obtain ⟨pd1, pd2⟩ := pd _ tp
          have il : i * dT n ≤ 2 * dT n := Nat.mul_le_mul_right _ (by omega)
          refine ⟨_, _, rfl, SqT.of hcz.1, rfl, _, _, rfl, _, _, rfl, rfl, wipe2 (by decide) _ _, ?_⟩
          refine ⟨_, rfl, _, rfl, _, rfl, st, l, c2, ys[i].tv, ys[i].tr, _, zs0, rfl, S2, by omega, hcz.2.2, pd1, pd2, (onC_mem onc _ cm).2, fun v' t' H4 c4 ht' sm ok' dp' B4 S4 hc4 => ?_⟩
          have tb4 := tup_but S2 B4
          refine ⟨by show 2 ≤ sizeLine; decide, fun q hq => ?_⟩
          have sq := same_mk (o := .tup [ys[i].av, v']) hq
          have hq' := upd_same (H := H4) (a := q) (o := .tup [ys[i].av, v'])
          generalize upd H4 q (.tup [ys[i].av, v']) = H5 at sq hq' ⊢
          have hD5 := sq _ _ (B4 _ _ hD2 nD.1 nD.2)
          have S5 := S4.up sq
          have tb6 : TupS H5 (upd H5 D (.lst ((rs.map fun r => V.ref r.row) ++ [.ref q]))) := tupS_put hD5 fun xs z => by cases z
          refine ⟨_, hD5, Nat.lt_of_lt_of_le (show (rs.map fun r => V.ref r.row).length < 1000 by rw [List.length_map]; omega) (by decide), fun b u hb e1 e2 => ?_, ⟨c4, S5.put (o := .lst ((rs.map fun r => V.ref r.row) ++ [.ref q])) nD, by rw [Nat.succ_mul]; omega⟩, rs ++ [⟨q, ys[i].av, v', ys[i].an, t'⟩], by rw [List.length_append, rl]; rfl, by rw [upd_same, List.map_append]; rfl, fun j z r hz' hr' => ?_, fun r hr' => ?_⟩
          · rw [upd_ne fun e => by rw [e, hD] at hb; cases hb]
            exact sq _ _ (B4 _ _ (B2 _ _ hb e1 e2) e1 e2)
          · by_cases lt : j < rs.length
            · rw [List.getElem?_append_left lt] at hr'
              exact rz j z r hz' hr'
            · rw [List.getElem?_append_right (by omega)] at hr'
              have l1 := (List.getElem?_eq_some_iff.mp hr').1
              rw [List.length_singleton] at l1
              obtain rfl : j = i := by omega
              rw [show j - rs.length = 0 by omega] at hr'
              cases hr'
              rw [hz] at hz'
              cases hz'
              exact ⟨rfl, sm, ok', dp'⟩
          · rcases List.mem_append.mp hr' with h | h
            · exact (((ra r h).tup tb4).tup (TupS.of sq)).tup tb6
            · rw [List.mem_singleton.mp h]
              exact CzA.tup ⟨hq', (hcz.2.1.tup tb4).up sq, ht'.up sq⟩ tb6
        · rintro H2 ⟨B2, ⟨c2, S2, hc2⟩, rs, rl, hD2, rz, ra⟩
          have yl2 : (ys.map fun z => V.ref z.row).length = ys.length := List.length_map ..
          rw [yl2] at rl hc2
          have tb2 : TupS H H2 := fun b xs e => (tup_but S1 B2) _ _ (tb1 _ _ e)
          have il : ys.length * dT n ≤ 3 * dT n := Nat.mul_le_mul_right _ (by omega)
          refine ⟨_, rfl, p, _, 1, _, rfl, rfl, SqT.of (tb2 _ _ r), atI_nat (j := 1) rfl, _, rfl, D, _, rfl, .inl ⟨SqL.of hD2, fun TQ hTQ => ?_⟩⟩
          have sq := same_mk (o := .tup (rs.map fun r => V.ref r.row)) hTQ
          have hTQ' := upd_same (H := H2) (a := TQ) (o := .tup (rs.map fun r => V.ref r.row))
          generalize upd H2 TQ (.tup (rs.map fun r => V.ref r.row)) = H3 at sq hTQ' ⊢
          have tb3 : TupS H H3 := fun b xs e => sq _ _ (tb2 _ _ e)
          obtain ⟨pd1, pd2⟩ := pd o (List.mem_append_right _ (List.mem_singleton.mpr rfl))
          refine ⟨_, rfl, _, rfl, p, _, 3, _, rfl, rfl, SqT.of (tb3 _ _ r), atI_nat (j := 3) rfl, st, l, c2, ov, o, _, zs0, rfl, S2.up sq, by omega, to.tup tb3, pd1, pd2, ono, fun v' o' H4 c4 hto sm ok' dp' B4 S4 hc4 => ?_⟩
          have tb4 := tup_but (S2.up sq) B4
          refine ⟨by show 4 ≤ sizeLine; decide, fun q hq => ?_⟩
          have s5 := same_mk (o := .tup [.str "ask", .ref kp, .ref TQ, v']) hq
          have zmem : ∀ z ∈ ys, ∃ r ∈ rs, RzP ab kk z r := fun z hz => by
            obtain ⟨j, hj⟩ := List.getElem?_of_mem hz
            have lj := (List.getElem?_eq_some_iff.mp hj).1
            have hr : rs[j]? = some rs[j] := List.getElem?_eq_getElem (by omega)
            exact ⟨_, List.mem_of_getElem? hr, rz j z _ hj hr⟩
          have rmem : ∀ r ∈ rs, ∃ z ∈ ys, RzP ab kk z r := fun r hr => by
            obtain ⟨j, hj⟩ := List.getElem?_of_mem hr
            have lj := (List.getElem?_eq_some_iff.mp hj).1
            have hz : ys[j]? = some ys[j] := List.getElem?_eq_getElem (by omega)
            exact ⟨_, List.mem_of_getElem? hz, rz j _ r hz hj⟩
          have keys : rs.map (·.an) = ys.map (·.an) := by
            refine List.ext_getElem? fun j => ?_
            rw [List.getElem?_map, List.getElem?_map]
            by_cases lt : j < ys.length
            · have hz : ys[j]? = some ys[j] := List.getElem?_eq_getElem lt
              have hr : rs[j]? = some rs[j] := List.getElem?_eq_getElem (by omega)
              rw [hz, hr]
              exact congrArg some (rz j _ _ hz hr).an
            · rw [List.getElem?_eq_none (by omega), List.getElem?_eq_none (by omega)]
          have nd2 : ((rs.map fun z => (z.an, z.tr)).map (·.1)).Nodup := by
            rw [List.map_map, show ((fun x : An × Tr => x.1) ∘ fun z : Cz => (z.an, z.tr)) = (·.an) from rfl, keys]
            refine (pm.map (·.an)).nodup_iff.mpr ?_
            have := nd
            rw [← e2, List.map_map] at this
            exact this
          have csm : ∀ c ∈ cs, ∃ z ∈ ys, c = (z.an, z.tr) := fun c hc => by
            rw [← e2] at hc
            obtain ⟨z, hz, rfl⟩ := List.mem_map.mp hc
            exact ⟨z, pm.mem_iff.mpr hz, rfl⟩
          have cl' : cs.length = (rs.map fun z => (z.an, z.tr)).length := by
            rw [← e2, List.length_map, List.length_map]
            omega
          refine k (.ref q) (.ask kk (rs.map fun z => (z.an, z.tr)) o') _ c4 (.ask (xs := rs.map fun r => V.ref r.row) upd_same (s5 _ _ (tb4 _ _ (tb3 _ _ rk))) (s5 _ _ (tb4 _ _ hTQ')) (csAt_of fun z hz => ?_) (hto.up s5)) ?_ ?_ ?_ ?_ (S4.up s5) (by omega)
          · exact (((ra z hz).tup (TupS.of sq)).tup tb4).tup (TupS.of s5)
          · refine same_ask cl' (fun c hc => ?_) sm
            obtain ⟨z, hz, rfl⟩ := csm c hc
            obtain ⟨r, hr, rp⟩ := zmem z hz
            exact ⟨r.tr, lkC_mem nd2 (List.mem_map.mpr ⟨r, hr, by rw [rp.an]⟩), rp.sm⟩
          · refine ⟨lok, nin, nd2, by rw [← cl']; exact cl, okC_of fun c hc => ?_, ok'⟩
            obtain ⟨r, hr, rfl⟩ := List.mem_map.mp hc
            obtain ⟨z, hz, rp⟩ := rmem r hr
            have cm : (z.an, z.tr) ∈ cs := by rw [← e2]; exact List.mem_map.mpr ⟨_, pm.mem_iff.mp hz, rfl⟩
            exact ⟨by rw [rp.an]; exact (okC_mem okc _ cm).1, rp.ok⟩
          · have h1 : depC (rs.map fun z => (z.an, z.tr)) ≤ depC cs := depC_le fun c hc => by
              obtain ⟨r, hr, rfl⟩ := List.mem_map.mp hc
              obtain ⟨z, hz, rp⟩ := rmem r hr
              have cm : (z.an, z.tr) ∈ cs := by rw [← e2]; exact List.mem_map.mpr ⟨_, pm.mem_iff.mp hz, rfl⟩
              have := depC_mem _ cm
              exact Nat.le_trans rp.dp this
            show max (depC _) (dep o') + 1 ≤ max (depC cs) (dep o) + 1
            omega
          · exact ((B1.trans B2).trans (But.same sq)).trans (B4.trans (But.same s5))
end
end T5

set_option maxHeartbeats 3900000
namespace T5
open PySem PySem.Spec PyProof.Rows L2 TL
open C8 (pss_cut tCut pe_gc)
open CB XW LE LR
abbrev sLUn : Stmt := top 45
mutual
def unM : Tr → Tr
  | .fin z => .fin (z ++ "x")
  | .ask k cs o => if cs.length = 0 then .ask k cs (unM o) else if cs.length = 1 then .ask k [] o else .ask k (unL cs) o
def unL : Cs → Cs
  | [] => []
  | (a, t) :: r => if r.length = 0 then (a, unM t) :: r else (a, t) :: unL r
end
theorem unL_last (a : An) (t : Tr) : ∀ ds : Cs, unL (ds ++ [(a, t)]) = ds ++ [(a, unM t)]
  | [] => by simp [unL]
  | (b, u) :: r => by
    show unL ((b, u) :: (r ++ [(a, t)])) = _
    rw [show unL ((b, u) :: (r ++ [(a, t)])) = if (r ++ [(a, t)]).length = 0 then (b, unM u) :: (r ++ [(a, t)]) else (b, u) :: unL (r ++ [(a, t)]) from by rw [unL]]
    rw [if_neg (by rw [List.length_append, List.length_singleton]; omega), unL_last a t r]
    rfl
theorem unM_fin (z : Str) : unM (.fin z) = .fin (z ++ "x") := by rw [unM]
theorem unM_0 {k : Lk} {o : Tr} : unM (.ask k [] o) = .ask k [] (unM o) := by rw [unM]; rfl
theorem unM_1 {k : Lk} {c : An × Tr} {o : Tr} : unM (.ask k [c] o) = .ask k [] o := by rw [unM]; rfl
theorem unM_2 {k : Lk} {ds : Cs} {a : An} {t o : Tr} (h : ds ≠ []) : unM (.ask k (ds ++ [(a, t)]) o) = .ask k (ds ++ [(a, unM t)]) o := by
  have l : ds.length ≠ 0 := fun e => h (List.length_eq_zero_iff.mp e)
  rw [unM, if_neg (by rw [List.length_append, List.length_singleton]; omega), if_neg (by rw [List.length_append, List.length_singleton]; omega), unL_last]
theorem cs_last : ∀ cs : Cs, cs = [] ∨ (∃ c, cs = [c]) ∨ ∃ ds a t, ds ≠ [] ∧ cs = ds ++ [(a, t)] := fun cs => by
  rcases List.eq_nil_or_concat cs with h | ⟨ds, c, h⟩
  · exact .inl h
  · by_cases e : ds = []
    · subst e
      exact .inr (.inl ⟨c, by rw [h]; rfl⟩)
    · exact .inr (.inr ⟨ds, c.1, c.2, e, by rw [h, List.concat_eq_append]⟩)
theorem dif_len {k k' : Lk} {cs cs' : Cs} {o o' : Tr} (h : cs.length ≠ cs'.length) : sameT (.ask k cs o) (.ask k' cs' o') = false := by
  simp [sameT, h]
theorem dif_c {k k' : Lk} {cs cs' : Cs} {o o' : Tr} {c : An × Tr} (hc : c ∈ cs) (h : oneC cs' c = false) : sameT (.ask k cs o) (.ask k' cs' o') = false := by
  have : sameC cs cs' = false := by
    rw [sameC_all, List.all_eq_false]
    exact ⟨c, hc, by rw [h]; exact Bool.false_ne_true⟩
  simp [sameT, this]
theorem dif_o {k k' : Lk} {cs cs' : Cs} {o o' : Tr} (h : sameT o o' = false) : sameT (.ask k cs o) (.ask k' cs' o') = false := by
  simp [sameT, h]
theorem dif_k {k k' : Lk} {cs cs' : Cs} {o o' : Tr} (h : k ≠ k') : sameT (.ask k cs o) (.ask k' cs' o') = false := by
  simp [sameT, h]
theorem un_ok {n : Nat} : ∀ {t : Tr} {ab : List Lk}, dep t < n → OkT ab t → OkT ab (unM t) ∧ dep (unM t) ≤ dep t ∧ sameT t (unM t) = false := by
  induction n with
  | zero => intro t ab h; exact absurd h (Nat.not_lt_zero _)
  | succ n ih =>
    intro t ab h ok
    cases t with
    | fin z =>
      rw [unM_fin]
      refine ⟨trivial, Nat.le_refl _, ?_⟩
      have : z ≠ z ++ "x" := fun e => by
        have := congrArg Str.length e
        rw [strLen_append] at this
        have e2 : ("x" : Str).length = 1 := by decide +kernel
        omega
      simp [sameT, this]
    | ask k cs o =>
      have pd := parts_dep h ok
      have ok2 := ok
      obtain ⟨lok, nin, nd, cl, okc, oko⟩ := ok2
      have hd : max (depC cs) (dep o) + 1 < n + 1 := h
      rcases cs_last cs with rfl | ⟨c, rfl⟩ | ⟨ds, a, t, ne, rfl⟩
      · obtain ⟨d, o2⟩ := pd o (List.mem_append_right _ (List.mem_singleton.mpr rfl))
        obtain ⟨i1, i2, i3⟩ := ih d o2
        rw [unM_0]
        refine ⟨⟨lok, nin, nd, cl, okc, i1⟩, ?_, dif_o i3⟩
        show max (depC []) (dep (unM o)) + 1 ≤ max (depC []) (dep o) + 1
        omega
      · rw [unM_1]
        refine ⟨⟨lok, nin, List.nodup_nil, Nat.zero_le _, trivial, oko⟩, ?_, dif_len (by simp)⟩
        show max (depC []) (dep o) + 1 ≤ max (depC [c]) (dep o) + 1
        have : depC [] = 0 := rfl
        omega
      · obtain ⟨d, o2⟩ := pd t (parts_mem (a := a) (List.mem_append_right _ (List.mem_singleton.mpr rfl)))
        obtain ⟨i1, i2, i3⟩ := ih d o2
        rw [unM_2 ne]
        have nd' : ((ds ++ [(a, unM t)]).map (·.1)).Nodup := by
          rw [List.map_append] at nd ⊢
          exact nd
        refine ⟨⟨lok, nin, nd', by rw [List.length_append] at cl ⊢; exact cl, okC_of fun c hc => ?_, oko⟩, ?_, dif_c (c := (a, t)) (List.mem_append_right _ (List.mem_singleton.mpr rfl)) ?_⟩
        · rcases List.mem_append.mp hc with hc | hc
          · exact okC_mem okc c (List.mem_append_left _ hc)
          · rw [List.mem_singleton.mp hc]
            exact ⟨(okC_mem okc (a, t) (List.mem_append_right _ (List.mem_singleton.mpr rfl))).1, i1⟩
        · have h1 : depC (ds ++ [(a, unM t)]) ≤ depC (ds ++ [(a, t)]) := depC_le fun c hc => by
            rcases List.mem_append.mp hc with hc | hc
            · exact depC_mem c (List.mem_append_left _ hc)
            · rw [List.mem_singleton.mp hc]
              exact Nat.le_trans i2 (depC_mem (a, t) (List.mem_append_right _ (List.mem_singleton.mpr rfl)))
          show max (depC _) (dep o) + 1 ≤ max (depC _) (dep o) + 1
          omega
        · unfold oneC
          rw [lkC_mem nd' (a := a) (t := unM t) (List.mem_append_right _ (List.mem_singleton.mpr rfl))]
          exact i3
theorem un_back {n : Nat} : ∀ {t : Tr} {ab : List Lk}, dep t < n → OkT ab t → sameT (unM t) t = false := by
  induction n with
  | zero => intro t ab h; exact absurd h (Nat.not_lt_zero _)
  | succ n ih =>
    intro t ab h ok
    cases t with
    | fin z =>
      rw [unM_fin]
      have : z ++ "x" ≠ z := fun e => by
        have := congrArg Str.length e
        rw [strLen_append] at this
        have e2 : ("x" : Str).length = 1 := by decide +kernel
        omega
      simp [sameT, this]
    | ask k cs o =>
      have pd := parts_dep h ok
      obtain ⟨lok, nin, nd, cl, okc, oko⟩ := ok
      rcases cs_last cs with rfl | ⟨c, rfl⟩ | ⟨ds, a, t, ne, rfl⟩
      · obtain ⟨d, o2⟩ := pd o (List.mem_append_right _ (List.mem_singleton.mpr rfl))
        rw [unM_0]
        exact dif_o (ih d o2)
      · rw [unM_1]
        exact dif_len (by simp)
      · obtain ⟨d, o2⟩ := pd t (parts_mem (a := a) (List.mem_append_right _ (List.mem_singleton.mpr rfl)))
        rw [unM_2 ne]
        refine dif_c (c := (a, unM t)) (List.mem_append_right _ (List.mem_singleton.mpr rfl)) ?_
        unfold oneC
        rw [lkC_mem nd (a := a) (t := t) (List.mem_append_right _ (List.mem_singleton.mpr rfl))]
        exact ih d o2
end T5

set_option maxHeartbeats 3900000
namespace T5
open PySem PySem.Spec PyProof.Rows L2 TL
open C8 (pss_cut tCut pe_gc)
open CB XW LE LR
theorem cut_lastV (xs : List V) : cutV xs none (some (-1 : Int)) = xs.take (xs.length - 1) := by
  show (xs.drop (HT.sIx xs.length 0 none)).take (HT.sIx xs.length xs.length (some (-1 : Int)) - HT.sIx xs.length 0 none) = xs.take (xs.length - 1)
  rw [HT.sIx_none, List.drop_zero, Nat.sub_zero]
  have e : HT.sIx xs.length xs.length (some (-1)) = xs.length - 1 := by
    show (if (-1 : Int) < 0 then ((-1 : Int) + (xs.length : Int)).toNat else min (-1 : Int).toNat xs.length) = _
    rw [if_pos (by decide)]
    omega
  rw [e]
theorem atI_end {α : Type} {xs : List α} {v : α} (h : xs[xs.length - 1]? = some v) : atI xs (-1) = some v := by
  have l := (List.getElem?_eq_some_iff.mp h).1
  have e : ixN xs.length (-1) = some (xs.length - 1) := by
    unfold ixN
    rw [if_neg (by decide), if_pos (by omega)]
    congr 1
    omega
  unfold atI
  rw [e]
  exact h
theorem no_cut {xs : List V} (p : 0 < xs.length) : ¬ (HT.sIx xs.length 0 none = 0 ∧ HT.sIx xs.length xs.length (some (-1 : Int)) = xs.length) := fun h => by
  have e : HT.sIx xs.length xs.length (some (-1)) = xs.length - 1 := by
    show (if (-1 : Int) < 0 then ((-1 : Int) + (xs.length : Int)).toNat else min (-1 : Int).toNat xs.length) = _
    rw [if_pos (by decide)]
    omega
  have := h.2
  omega
theorem csAt_last {H : Hp} {xs : List V} {ds : Cs} {a : An} {t : Tr} (h : CsAt H xs (ds ++ [(a, t)])) : ∃ ys p av tv, xs = ys ++ [.ref p] ∧ CsAt H ys ds ∧ H p = some (.tup [av, tv]) ∧ AnAt H av a ∧ TrAt H tv t := by
  obtain ⟨zs, e1, e2, e3⟩ := cs_zip2 h
  rcases List.eq_nil_or_concat zs with rfl | ⟨rs, z, rfl⟩
  · simp at e2
  · rw [List.concat_eq_append] at e1 e2 e3
    rw [List.map_append] at e1 e2
    obtain ⟨e4, e5⟩ := List.append_inj' e2 rfl
    simp only [List.map_cons, List.map_nil, List.cons.injEq, Prod.mk.injEq, and_true] at e5
    obtain ⟨rfl, rfl⟩ := e5
    obtain ⟨h1, h2, h3⟩ := e3 z (List.mem_append_right _ (List.mem_singleton.mpr rfl))
    refine ⟨rs.map fun z => V.ref z.row, z.row, z.av, z.tv, e1.symm, ?_, h1, h2, h3⟩
    rw [← e4]
    exact csAt_of fun c hc => e3 c (List.mem_append_left _ hc)
theorem csAt_cat {H : Hp} {xs ys : List V} {cs ds : Cs} : CsAt H xs cs → CsAt H ys ds → CsAt H (xs ++ ys) (cs ++ ds)
  | .nil, h => h
  | .cons r ha ht c, h => .cons r ha ht (csAt_cat c h)
theorem csAt_len {H : Hp} : ∀ {xs : List V} {cs : Cs}, CsAt H xs cs → xs.length = cs.length
  | _, _, .nil => rfl
  | _, _, .cons _ _ _ c => by rw [List.length_cons, List.length_cons, csAt_len c]
def spUnl (n : Nat) : Sp := fun vs H Q _ => ∃ v t ab, vs = [v] ∧ TrAt H v t ∧ dep t < n ∧ OkT ab t ∧ (∀ zs, (zs : List Str) = zs → True) ∧ (∃ zs, OnT zs t) ∧ ∀ v' H', Same H H' → TrAt H' v' (unM t) → Q v' H'
section
variable {P : Program} {w : World} {K : PySem.W.Frag} {mg : Str → Option Value} {base : Heap}
theorem scLUn : FnScope ["_law_tree_here"] ["_law_tree_here"] (defScope sLUn) := ⟨rfl, rfl, rfl, by decide +kernel, rfl, by decide +kernel, by decide +kernel⟩
theorem ok_unl {f : Addr} {fd : FuncData} (F : Fun K "_law_unlike" "_law_unlike" sLUn f fd) (T : TB mg) (aLUn : At K mg "_law_unlike" f fd ["_law_tree_here"]) : ∀ n, FnOk P w K mg base CX0 n f fd ["_law_tree_here"] (spUnl n) := by
  intro n
  induction n with
  | zero =>
    refine ⟨fun vs H Q E h => ?_, fun A outer s H args us vs Q E hr he hb hv h => ?_⟩
    · obtain ⟨v, t, ab, rfl, _⟩ := h
      rfl
    · obtain ⟨v, t, ab, _, _, hd, _⟩ := h
      exact absurd hd (Nat.not_lt_zero _)
  | succ n GLUn =>
    refine F.ok scLUn (fun vs H Q E h => ?_) (fun cdv A outer s H vs Q E hr h => ?_)
    · obtain ⟨v, t, ab, rfl, _⟩ := h
      rfl
    · obtain ⟨v, t, ab, rfl, ht, hd, ok, _, ⟨zs0, on⟩, k⟩ := h
      have hrN : ∀ m, m ≤ n → Room m (A.deeper (envOfC "_law_unlike" (defScope sLUn) s.heap.objs.size f cdv)) := fun m h => hr.mono h
      refine ⟨_, pss_cons (ps_if (pt_cmpR op_eq (pe_ix ix_tup (pv 0) pe_int (fun _ _ => rfl)) pe_str (nomark _)) (pss_one (ps_ret (pe_tup (pa_cons pe_str (pa_cons (pe_op op_add_str (pe_ix ix_tup (pv 0) pe_int (fun _ _ => rfl)) pe_str) pa_nil))))) (pss_nil))
              (pss_cons (ps_if (pt_cmpR op_eq (pe_callB call_len_seq (by rfl) T.len PySem.boot_len (pa_cons (pe_ix ix_tup (pv 0) pe_int (fun _ _ => rfl)) pa_nil)) pe_int (nomark _)) (pss_one (ps_ret (pe_tup (pa_cons pe_str (pa_cons (pe_ix ix_tup (pv 0) pe_int (fun _ _ => rfl)) (pa_cons (pe_ix ix_tup (pv 0) pe_int (fun _ _ => rfl)) (pa_cons (pe_call GLUn (hrN _ (by omega)) rfl aLUn.m aLUn.k aLUn.b .nil pass0 (pa_cons (pe_ix ix_tup (pv 0) pe_int (fun _ _ => rfl)) pa_nil)) pa_nil))))))) (pss_nil))
              (pss_cons (ps_if (pt_cmpR op_eq (pe_callB call_len_seq (by rfl) T.len PySem.boot_len (pa_cons (pe_ix ix_tup (pv 0) pe_int (fun _ _ => rfl)) pa_nil)) pe_int (nomark _)) (pss_one (ps_ret (pe_tup (pa_cons pe_str (pa_cons (pe_ix ix_tup (pv 0) pe_int (fun _ _ => rfl)) (pa_cons (pe_tup pa_nil) (pa_cons (pe_ix ix_tup (pv 0) pe_int (fun _ _ => rfl)) pa_nil))))))) (pss_nil))
              (pss_one (ps_ret (pe_tup (pa_cons pe_str (pa_cons (pe_ix ix_tup (pv 0) pe_int (fun _ _ => rfl)) (pa_cons (pe_op op_catT (pe_slice sl_tup (pe_ix ix_tup (pv 0) pe_int (fun _ _ => rfl)) po_none (po_some (pe_un un_neg pe_int))) (pe_tup (pa_cons (pe_tup (pa_cons (pe_ix ix_tup (pe_ix ix_tup (pe_ix ix_tup (pv 0) pe_int (fun _ _ => rfl)) (pe_un un_neg pe_int) (fun _ _ => rfl)) pe_int (fun _ _ => rfl)) (pa_cons (pe_call GLUn (hrN _ (by omega)) rfl aLUn.m aLUn.k aLUn.b .nil pass0 (pa_cons (pe_ix ix_tup (pe_ix ix_tup (pe_ix ix_tup (pv 0) pe_int (fun _ _ => rfl)) (pe_un un_neg pe_int) (fun _ _ => rfl)) pe_int (fun _ _ => rfl)) pa_nil)) pa_nil))) pa_nil))) (pa_cons (pe_ix ix_tup (pv 0) pe_int (fun _ _ => rfl)) pa_nil))))))))), ?_⟩
      cases ht with
      | @fin p z r =>
        have zl : z.length ≤ 4 := by
          have hz : z ∈ (["good", "bad", "", "no"] : List Str) := on
          have all : ∀ z ∈ (["good", "bad", "", "no"] : List Str), z.length ≤ 4 := by decide +kernel
          exact all z hz
        have xl : ("x" : Str).length = 1 := by decide +kernel
        refine ⟨_, rfl, p, _, 0, _, rfl, rfl, SqT.of r, atI_nat (j := 0) rfl, rfl, _, rfl, iteT ?_⟩
        refine ⟨_, rfl, p, _, 1, _, rfl, rfl, SqT.of r, atI_nat (j := 1) rfl, z, "x", rfl, rfl, Nat.le_trans (show z.length + ("x" : Str).length ≤ 1000 by omega) (by decide), by show 2 ≤ sizeLine; decide, fun q hq => ?_⟩
        have sq := same_mk (o := .tup [.str "end", .str (z ++ "x")]) hq
        exact k (.ref q) _ sq (by rw [unM_fin]; exact .fin upd_same)
      | @ask p kp cp ov xs kk cs o r rk rc cc to =>
        have pd := parts_dep hd ok
        obtain ⟨_, cl3, onc, ono⟩ := on
        refine ⟨_, rfl, p, _, 0, _, rfl, rfl, SqT.of r, atI_nat (j := 0) rfl, rfl, _, rfl, iteF ?_⟩
        refine ⟨_, rfl, p, _, 2, _, rfl, rfl, SqT.of r, atI_nat (j := 2) rfl, cp, _, rfl, .inr (SqT.of rc), rfl, _, rfl, ?_⟩
        have xl := csAt_len cc
        rw [xl]
        rcases cs_last cs with rfl | ⟨c, rfl⟩ | ⟨ds, a, t, ne, rfl⟩
        · refine iteT ?_
          obtain ⟨pd1, pd2⟩ := pd o (List.mem_append_right _ (List.mem_singleton.mpr rfl))
          refine ⟨_, rfl, p, _, 1, _, rfl, rfl, SqT.of r, atI_nat (j := 1) rfl, _, rfl, p, _, 2, _, rfl, rfl, SqT.of r, atI_nat (j := 2) rfl, _, rfl, p, _, 3, _, rfl, rfl, SqT.of r, atI_nat (j := 3) rfl, ov, o, _, rfl, to, pd1, pd2, fun _ _ => trivial, ⟨zs0, ono⟩, fun v' H1 s1 h1 => ?_⟩
          refine ⟨by show 4 ≤ sizeLine; decide, fun q hq => ?_⟩
          have sq := s1.trans (same_mk (o := .tup [.str "ask", .ref kp, .ref cp, v']) hq)
          refine k (.ref q) _ sq ?_
          rw [unM_0]
          exact .ask upd_same (sq _ _ rk) (sq _ _ rc) (CsAt.up sq cc) (h1.up (same_mk hq))
        · refine iteF ?_
          refine ⟨_, rfl, p, _, 2, _, rfl, rfl, SqT.of r, atI_nat (j := 2) rfl, cp, _, rfl, .inr (SqT.of rc), rfl, _, rfl, ?_⟩
          rw [xl]
          refine iteT ⟨_, rfl, p, _, 1, _, rfl, rfl, SqT.of r, atI_nat (j := 1) rfl, by show 0 ≤ sizeLine; decide, fun e he => ?_⟩
          have s1 := same_mk (o := .tup []) he
          have he' := upd_same (H := H) (a := e) (o := .tup [])
          generalize upd H e (.tup []) = H1 at s1 he' ⊢
          refine ⟨_, rfl, p, _, 3, _, rfl, rfl, SqT.of (s1 _ _ r), atI_nat (j := 3) rfl, by show 4 ≤ sizeLine; decide, fun q hq => ?_⟩
          have s2 := same_mk (o := .tup [.str "ask", .ref kp, .ref e, ov]) hq
          refine k (.ref q) _ (s1.trans s2) ?_
          rw [unM_1]
          exact .ask (xs := []) upd_same (s2 _ _ (s1 _ _ rk)) (s2 _ _ he') .nil ((to.up s1).up s2)
        · have dl : ds.length ≠ 0 := fun e => ne (List.length_eq_zero_iff.mp e)
          have ll : (ds ++ [(a, t)]).length = ds.length + 1 := by rw [List.length_append]; rfl
          have e0 : decide (V.int (((ds ++ [(a, t)]).length : Nat) : Int) = V.int 0) = false := decide_eq_false fun z => by have := V.int.inj z; omega
          have e1 : decide (V.int (((ds ++ [(a, t)]).length : Nat) : Int) = V.int 1) = false := decide_eq_false fun z => by have := V.int.inj z; omega
          rw [e0]
          refine iteF ?_
          refine ⟨_, rfl, p, _, 2, _, rfl, rfl, SqT.of r, atI_nat (j := 2) rfl, cp, _, rfl, .inr (SqT.of rc), rfl, _, rfl, ?_⟩
          rw [xl, e1]
          refine iteF ?_
          obtain ⟨ys, q, av, tv, rfl, cy, hq, ha, htv⟩ := csAt_last cc
          have yl := csAt_len cy
          have xpos : 0 < (ys ++ [V.ref q]).length := by rw [List.length_append, List.length_singleton]; omega
          have xlast : (ys ++ [V.ref q])[(ys ++ [V.ref q]).length - 1]? = some (.ref q) := by
            rw [List.length_append, List.length_singleton, Nat.add_sub_cancel, List.getElem?_append_right (Nat.le_refl _), Nat.sub_self]
            rfl
          obtain ⟨pd1, pd2⟩ := pd t (parts_mem (a := a) (List.mem_append_right _ (List.mem_singleton.mpr rfl)))
          have ont := (onC_mem onc (a, t) (List.mem_append_right _ (List.mem_singleton.mpr rfl))).2
          refine ⟨_, rfl, p, _, 1, _, rfl, rfl, SqT.of r, atI_nat (j := 1) rfl, ?_⟩
          refine ⟨_, rfl, p, _, 2, _, rfl, rfl, SqT.of r, atI_nat (j := 2) rfl, ?_⟩
          refine ⟨1, rfl, -1, rfl, cp, _, rfl, SqT.of rc, no_cut xpos, fun c1 hc1 => ?_⟩
          have ecut : cutV (ys ++ [V.ref q]) none (some (-1 : Int)) = ys := by
            rw [cut_lastV, List.length_append, List.length_singleton, Nat.add_sub_cancel]
            simp
          rw [ecut]
          have s1 := same_mk (o := .tup ys) hc1
          have hc1' := upd_same (H := H) (a := c1) (o := .tup ys)
          generalize upd H c1 (.tup ys) = H1 at s1 hc1' ⊢
          refine ⟨_, rfl, p, _, 2, _, rfl, rfl, SqT.of (s1 _ _ r), atI_nat (j := 2) rfl, 1, rfl, cp, _, -1, _, rfl, rfl, SqT.of (s1 _ _ rc), atI_end xlast, q, _, 0, _, rfl, rfl, SqT.of (s1 _ _ hq), atI_nat (j := 0) rfl, ?_⟩
          refine ⟨_, rfl, p, _, 2, _, rfl, rfl, SqT.of (s1 _ _ r), atI_nat (j := 2) rfl, 1, rfl, cp, _, -1, _, rfl, rfl, SqT.of (s1 _ _ rc), atI_end xlast, q, _, 1, _, rfl, rfl, SqT.of (s1 _ _ hq), atI_nat (j := 1) rfl, tv, t, _, rfl, htv.up s1, pd1, pd2, fun _ _ => trivial, ⟨zs0, ont⟩, fun v' H2 s2 h2 => ?_⟩
          refine ⟨by show 2 ≤ sizeLine; decide, fun q2 hq2 => ?_⟩
          have s3 := same_mk (o := .tup [av, v']) hq2
          have hq2' := upd_same (H := H2) (a := q2) (o := .tup [av, v'])
          generalize upd H2 q2 (.tup [av, v']) = H3 at s3 hq2' ⊢
          refine ⟨by show 1 ≤ sizeLine; decide, fun q3 hq3 => ?_⟩
          have s4 := same_mk (o := .tup [.ref q2]) hq3
          have hq3' := upd_same (H := H3) (a := q3) (o := .tup [.ref q2])
          generalize upd H3 q3 (.tup [.ref q2]) = H4 at s4 hq3' ⊢
          have s14 : Same H1 H4 := s2.trans (s3.trans s4)
          have yne : ys ≠ [] := fun e => by rw [e] at yl; exact dl yl.symm
          refine ⟨c1, q3, ys, [.ref q2], rfl, rfl, SqT.of (s14 _ _ hc1'), SqT.of hq3', yne, Nat.le_trans (show ys.length + 1 ≤ 1000 by omega) (by decide), fun z => absurd z (List.cons_ne_nil _ _), fun _ c2 hc2 => ?_⟩
          have s5 := same_mk (o := .tup (ys ++ [.ref q2])) hc2
          have hc2' := upd_same (H := H4) (a := c2) (o := .tup (ys ++ [.ref q2]))
          generalize upd H4 c2 (.tup (ys ++ [.ref q2])) = H5 at s5 hc2' ⊢
          have s05 : Same H H5 := s1.trans (s14.trans s5)
          refine ⟨_, rfl, p, _, 3, _, rfl, rfl, SqT.of (s05 _ _ r), atI_nat (j := 3) rfl, by show 4 ≤ sizeLine; decide, fun q5 hq5 => ?_⟩
          have s6 := same_mk (o := .tup [.str "ask", .ref kp, .ref c2, ov]) hq5
          have s06 := s05.trans s6
          have s36 : Same H3 _ := s4.trans (s5.trans s6)
          refine k (.ref q5) _ s06 ?_
          rw [unM_2 ne]
          exact .ask (xs := ys ++ [.ref q2]) upd_same (s06 _ _ rk) (s6 _ _ hc2') (csAt_cat (CsAt.up s06 cy) (.cons (s36 _ _ hq2') (ha.up s06) (h2.up (s3.trans s36)) .nil)) (to.up s06)
end
end T5

set_option maxHeartbeats 3900000
namespace T5
open PySem PySem.Spec PyProof.Rows L2 TL
open CB XW LE LR
theorem looks_part {k : Lk} {cs : Cs} {o t : Tr} (h : t ∈ partsM cs o) : ∀ q ∈ looksM t, q ∈ looksM (.ask k cs o) := fun q hq => by
  rw [looks_ask]
  refine List.mem_cons_of_mem _ ?_
  unfold looksP
  exact List.mem_flatten.mpr ⟨_, List.mem_map.mpr ⟨t, h, rfl⟩, hq⟩
theorem okT_ab {n : Nat} : ∀ {t : Tr} {ab ab' : List Lk}, dep t < n → OkT ab t → (∀ q ∈ looksM t, q ∈ ab' → q ∈ ab) → OkT ab' t := by
  induction n with
  | zero => intro t ab ab' h; exact absurd h (Nat.not_lt_zero _)
  | succ n ih =>
    intro t ab ab' h ok hq
    cases t with
    | fin z => exact trivial
    | ask k cs o =>
      have pd := parts_dep h ok
      obtain ⟨lok, nin, nd, cl, okc, oko⟩ := ok
      have sub : ∀ t ∈ partsM cs o, ∀ q ∈ looksM t, q ∈ ab' ++ [k] → q ∈ ab ++ [k] := fun t ht q hqt hm => by
        rcases List.mem_append.mp hm with hm | hm
        · exact List.mem_append_left _ (hq q (looks_part ht q hqt) hm)
        · exact List.mem_append_right _ hm
      have kin : k ∈ looksM (.ask k cs o) := by rw [looks_ask]; exact List.mem_cons_self
      refine ⟨lok, fun m => nin (hq k kin m), nd, cl, okC_of fun c hc => ⟨(okC_mem okc c hc).1, ?_⟩, ?_⟩
      · have hp := parts_mem (o := o) (show (c.1, c.2) ∈ cs from hc)
        exact ih (pd _ hp).1 (pd _ hp).2 (sub _ hp)
      · have hp : o ∈ partsM cs o := List.mem_append_right _ (List.mem_singleton.mpr rfl)
        exact ih (pd _ hp).1 (pd _ hp).2 (sub _ hp)
theorem parts_on {zs : List Str} {k : Lk} {cs : Cs} {o : Tr} (on : OnT zs (.ask k cs o)) : ∀ t ∈ partsM cs o, OnT zs t := fun t ht => by
  obtain ⟨_, _, onc, ono⟩ := on
  rcases List.mem_append.mp ht with ht | ht
  · obtain ⟨c, hc, rfl⟩ := List.mem_map.mp ht
    exact (onC_mem onc c hc).2
  · rw [List.mem_singleton.mp ht]
    exact ono
theorem onT_looks {zs : List Str} {n : Nat} : ∀ {t : Tr}, dep t < n → OnT zs t → ∀ q ∈ looksM t, LkOn zs 3 q := by
  induction n with
  | zero => intro t h; exact absurd h (Nat.not_lt_zero _)
  | succ n ih =>
    intro t h on q hq
    cases t with
    | fin z => cases hq
    | ask k cs o =>
      rw [looks_ask] at hq
      rcases List.mem_cons.mp hq with rfl | hq
      · exact on.1
      · unfold looksP at hq
        obtain ⟨l, hl, hq⟩ := List.mem_flatten.mp hq
        obtain ⟨t, ht, rfl⟩ := List.mem_map.mp hl
        have hd : max (depC cs) (dep o) + 1 < n + 1 := h
        have dt : dep t < n := by
          rcases List.mem_append.mp ht with h2 | h2
          · obtain ⟨c, hc, rfl⟩ := List.mem_map.mp h2
            have := depC_mem c hc
            omega
          · rw [List.mem_singleton.mp h2]
            omega
        exact ih dt (parts_on on t ht) q hq
def newA (z : Str) : Lk → An
  | .ls _ => .es [(z, false)]
  | _ => .tx "zzz"
theorem newA_ok {k : Lk} {z : Str} (h : LkOk k) (hz : IsNm z) : SiOk' (k, newA z k) := by
  have e : Ents [(z, false)] := ⟨fun e he => by rw [List.mem_singleton.mp he]; exact hz, by simp, by show 1 ≤ 1000; decide⟩
  have oz : Okz "zzz" := by decide +kernel
  refine ⟨⟨h, ?_⟩, h.w, ?_⟩
  · cases k with
    | ls p => exact ⟨e, .inl (List.cons_ne_nil _ _)⟩
    | rd p => trivial
    | se n => trivial
    | tl => trivial
  · cases k with
    | ls p => exact ⟨e.1, by show 1 ≤ 1000; decide⟩
    | rd p => exact oz
    | se n => exact oz
    | tl => exact oz
theorem newA_new {zs : List Str} {k : Lk} {z : Str} (hz : z ∉ zs) {a : An} (h : AnOn zs a) : a ≠ newA z k := fun e => by
  subst e
  cases k with
  | ls p => exact hz (h.1 (z, false) List.mem_cons_self)
  | rd p => exact h.2 rfl
  | se n => exact h.2 rfl
  | tl => exact h.2 rfl
def newK (z : Str) : Lk → Lk
  | .rd _ => .rd [z]
  | .ls _ => .ls [z]
  | .se _ => .se z
  | .tl => .tl
def CanN : Lk → Bool
  | .rd _ => true
  | .ls p => !decide (p = [])
  | .se _ => true
  | .tl => false
theorem newK_ok {k : Lk} {z : Str} (hz : IsNm z) (c : CanN k = true) : LkOk (newK z k) := by
  have n1 : Nms [z] := fun y hy => by rw [List.mem_singleton.mp hy]; exact hz
  cases k with
  | ls p => exact ⟨n1, by show 1 ≤ 90; decide⟩
  | rd p => exact ⟨List.cons_ne_nil _ _, n1, by show 1 ≤ 90; decide⟩
  | se n => exact hz
  | tl => cases c
theorem newK_new {zs : List Str} {k q : Lk} {z : Str} (hz : z ∉ zs) (c : CanN k = true) (h : LkOn zs 3 q) : q ≠ newK z k := fun e => by
  subst e
  cases k with
  | ls p => exact hz (h.2 z List.mem_cons_self)
  | rd p => exact hz (h.2.2 z List.mem_cons_self)
  | se n => exact hz h
  | tl => cases c
theorem newK_an {k : Lk} {z : Str} {a : An} (hz : IsNm z) (c : CanN k = true) (h : SiOk' (k, a)) : SiOk' (newK z k, a) := by
  obtain ⟨⟨_, h2⟩, _, h4⟩ := h
  refine ⟨⟨newK_ok hz c, ?_⟩, (newK_ok hz c).w, h4⟩
  cases k with
  | ls p =>
    have pe : p ≠ [] := fun e => by subst e; cases c
    cases a with
    | no => exact List.cons_ne_nil _ _
    | tx t => exact h2
    | es l => exact ⟨h2.1, .inl (h2.2.resolve_right pe)⟩
  | rd p => cases a <;> exact h2
  | se n => cases a <;> exact h2
  | tl => cases c
structure UP (t t' : Tr) : Prop where
  ok : OkT [] t'
  dp : dep t' ≤ 4
  df : sameT t t' = false
  db : sameT t' t = false
theorem up_un {t : Tr} (h : dep t ≤ 4) (ok : OkT [] t) : UP t (unM t) := by
  obtain ⟨a, b, c⟩ := un_ok (n := 5) (by omega) ok
  exact ⟨a, by omega, c, un_back (n := 5) (by omega) ok⟩
theorem up_tool {z : Str} : UP (.fin z) (.ask .tl [] (.fin z)) := ⟨⟨trivial, List.not_mem_nil, List.nodup_nil, Nat.zero_le _, trivial, trivial⟩, by show max 0 0 + 1 ≤ 4; decide, by simp [sameT], by simp [sameT]⟩
section
variable {zs : List Str} {k : Lk} {cs : Cs} {o : Tr} {z : Str}
theorem up_look (h : dep (.ask k cs o) ≤ 4) (ok : OkT [] (.ask k cs o)) (on : OnT zs (.ask k cs o)) (hz : IsNm z) (nz : z ∉ zs) (c : CanN k = true) : UP (.ask k cs o) (.ask (newK z k) cs o) := by
  have pd := parts_dep (n := 4) (show dep (.ask k cs o) < 4 + 1 by omega) ok
  have po := parts_on on
  have kon := on.1
  obtain ⟨lok, nin, nd, cl, okc, oko⟩ := ok
  have sub : ∀ t ∈ partsM cs o, OkT ([] ++ [newK z k]) t := fun t ht => okT_ab (n := 4) (pd t ht).1 (pd t ht).2 fun q hq hm => by
    have := List.mem_singleton.mp hm
    exact absurd this (newK_new nz c (onT_looks (n := 4) (pd t ht).1 (po t ht) q hq))
  exact ⟨⟨newK_ok hz c, List.not_mem_nil, nd, cl, okC_of fun c1 hc => ⟨newK_an hz c (okC_mem okc c1 hc).1, sub _ (parts_mem (show (c1.1, c1.2) ∈ cs from hc))⟩, sub o (List.mem_append_right _ (List.mem_singleton.mpr rfl))⟩, h, dif_k (newK_new nz c kon), dif_k fun e => newK_new nz c kon e.symm⟩
theorem up_more (h : dep (.ask k cs o) ≤ 4) (ok : OkT [] (.ask k cs o)) (on : OnT zs (.ask k cs o)) (hz : IsNm z) (nz : z ∉ zs) : UP (.ask k cs o) (.ask k (cs ++ [(newA z k, .fin "more")]) o) := by
  obtain ⟨lok, nin, nd, cl, okc, oko⟩ := ok
  obtain ⟨_, cl3, onc, _⟩ := on
  refine ⟨⟨lok, nin, ?_, by rw [List.length_append, List.length_singleton]; omega, okC_of fun c hc => ?_, oko⟩, ?_, dif_len (by rw [List.length_append, List.length_singleton]; omega), dif_len (by rw [List.length_append, List.length_singleton]; omega)⟩
  · rw [List.map_append, List.nodup_append]
    refine ⟨nd, List.nodup_cons.mpr ⟨List.not_mem_nil, List.nodup_nil⟩, fun a ha b hb e => ?_⟩
    obtain ⟨c, hc, rfl⟩ := List.mem_map.mp ha
    have hb' : b = newA z k := by simpa using hb
    exact newA_new (k := k) nz (onC_mem onc c hc).1 (e.trans hb')
  · rcases List.mem_append.mp hc with hc | hc
    · exact okC_mem okc c hc
    · rw [List.mem_singleton.mp hc]
      exact ⟨newA_ok lok hz, trivial⟩
  · have hd : max (depC cs) (dep o) + 1 ≤ 4 := h
    have h1 : depC (cs ++ [(newA z k, .fin "more")]) ≤ depC cs := depC_le fun c hc => by
      rcases List.mem_append.mp hc with hc | hc
      · exact depC_mem c hc
      · rw [List.mem_singleton.mp hc]
        exact Nat.zero_le _
    show max (depC _) (dep o) + 1 ≤ 4
    omega
theorem up_less {ds : Cs} {a : An} {t : Tr} (h : dep (.ask k (ds ++ [(a, t)]) o) ≤ 4) (ok : OkT [] (.ask k (ds ++ [(a, t)]) o)) : UP (.ask k (ds ++ [(a, t)]) o) (.ask k ds o) := by
  obtain ⟨lok, nin, nd, cl, okc, oko⟩ := ok
  refine ⟨⟨lok, nin, ?_, by rw [List.length_append] at cl; omega, okC_of fun c hc => okC_mem okc c (List.mem_append_left _ hc), oko⟩, ?_, dif_len (by rw [List.length_append, List.length_singleton]; omega), dif_len (by rw [List.length_append, List.length_singleton]; omega)⟩
  · rw [List.map_append, List.nodup_append] at nd
    exact nd.1
  · have hd : max (depC (ds ++ [(a, t)])) (dep o) + 1 ≤ 4 := h
    have h1 : depC ds ≤ depC (ds ++ [(a, t)]) := depC_le fun c hc => depC_mem c (List.mem_append_left _ hc)
    show max (depC _) (dep o) + 1 ≤ 4
    omega
theorem up_answer {ds : Cs} {a : An} {t : Tr} (h : dep (.ask k (ds ++ [(a, t)]) o) ≤ 4) (ok : OkT [] (.ask k (ds ++ [(a, t)]) o)) (on : OnT zs (.ask k (ds ++ [(a, t)]) o)) (hz : IsNm z) (nz : z ∉ zs) : UP (.ask k (ds ++ [(a, t)]) o) (.ask k (ds ++ [(newA z k, t)]) o) := by
  obtain ⟨lok, nin, nd, cl, okc, oko⟩ := ok
  obtain ⟨_, cl3, onc, _⟩ := on
  have nd0 := nd
  rw [List.map_append, List.nodup_append] at nd
  have last : (a, t) ∈ ds ++ [(a, t)] := List.mem_append_right _ (List.mem_singleton.mpr rfl)
  refine ⟨⟨lok, nin, ?_, by rw [List.length_append] at cl ⊢; exact cl, okC_of fun c hc => ?_, oko⟩, ?_, dif_c last ?_, dif_c (c := (newA z k, t)) (List.mem_append_right _ (List.mem_singleton.mpr rfl)) ?_⟩
  · rw [List.map_append, List.nodup_append]
    refine ⟨nd.1, List.nodup_cons.mpr ⟨List.not_mem_nil, List.nodup_nil⟩, fun x hx b hb e => ?_⟩
    obtain ⟨c, hc, rfl⟩ := List.mem_map.mp hx
    have hb' : b = newA z k := by simpa using hb
    exact newA_new (k := k) nz (onC_mem onc c (List.mem_append_left _ hc)).1 (e.trans hb')
  · rcases List.mem_append.mp hc with hc | hc
    · exact okC_mem okc c (List.mem_append_left _ hc)
    · rw [List.mem_singleton.mp hc]
      exact ⟨newA_ok lok hz, (okC_mem okc _ last).2⟩
  · have hd : max (depC (ds ++ [(a, t)])) (dep o) + 1 ≤ 4 := h
    have h1 : depC (ds ++ [(newA z k, t)]) ≤ depC (ds ++ [(a, t)]) := depC_le fun c hc => by
      rcases List.mem_append.mp hc with hc | hc
      · exact depC_mem c (List.mem_append_left _ hc)
      · rw [List.mem_singleton.mp hc]
        exact depC_mem (a, t) last
    show max (depC _) (dep o) + 1 ≤ 4
    omega
  · have hn : lkC (ds ++ [(newA z k, t)]) a = none := by
      unfold lkC
      rw [List.find?_eq_none.mpr]
      · rfl
      · intro c hc e
        have e := of_decide_eq_true e
        rcases List.mem_append.mp hc with hc | hc
        · exact nd.2.2 c.1 (List.mem_map.mpr ⟨c, hc, rfl⟩) a (by simp) e
        · rw [List.mem_singleton.mp hc] at e
          exact newA_new (k := k) nz (onC_mem onc (a, t) last).1 e.symm
    unfold oneC
    rw [hn]
  · have hn : lkC (ds ++ [(a, t)]) (newA z k) = none := by
      unfold lkC
      rw [List.find?_eq_none.mpr]
      · rfl
      · intro c hc e
        have e := of_decide_eq_true e
        exact newA_new (k := k) nz (onC_mem onc c hc).1 e
    unfold oneC
    rw [hn]
end
end T5

set_option maxHeartbeats 3900000
namespace T5
open PySem PySem.Spec PyProof.Rows L2 TL
open CB XW LE LR
mutual
theorem tr_dp {K : PySem.W.Frag} {H : Hp} : ∀ {v : V} {t : Tr}, TrAt H v t → Dp K H v (trD t)
  | _, _, .fin (z := z) r => by
    unfold trD
    exact .tup (SqT.of r) (.cons (.str _) (.cons (.str _) .nil))
  | _, _, .ask r rk rc c t => by
    unfold trD
    exact .tup (SqT.of r) (.cons (.str _) (.cons (lk_dp rk) (.cons (.tup (SqT.of rc) (cs_dp c)) (.cons (tr_dp t) .nil))))
theorem cs_dp {K : PySem.W.Frag} {H : Hp} : ∀ {v : List V} {t : Cs}, CsAt H v t → DpAll K H v (csD t)
  | _, _, .nil => by unfold csD; exact .nil
  | _, _, .cons r ha ht c => by
    unfold csD
    exact .cons (.tup (SqT.of r) (.cons (an_dp ha) (.cons (tr_dp ht) .nil))) (cs_dp c)
end
theorem word_lay {z : Str} (h : z ∈ (["ask", "end", "good", "bad", "", "no"] : List Str)) : PyData.strOk z = true := by
  have : (["ask", "end", "good", "bad", "", "no"] : List Str).all fun z => PyData.strOk z := by decide +kernel
  exact List.all_eq_true.mp this z h
mutual
theorem tr_lay {zs : List Str} : ∀ (t : Tr) (ab : List Lk), OnT zs t → OkT ab t → (trD t).canLay0 = true
  | .fin z, ab, on, _ => by
    unfold trD
    have h1 := word_lay (z := z) (List.mem_cons_of_mem _ (List.mem_cons_of_mem _ on))
    have h2 := word_lay (z := "end") (by simp)
    simp [PyData.canLay0, PyData.canLayAll0, h1, h2]
  | .ask k cs o, ab, on, ok => by
    unfold trD
    obtain ⟨on1, on2, on3, on4⟩ := on
    obtain ⟨k1, k2, k3, k4, k5, k6⟩ := ok
    have h1 : (lkD k).canLay0 = true := lay_strD _ (lkS_ok k1.w)
    have h2 := cs_lay cs ab k on3 k5
    have h3 := tr_lay o (ab ++ [k]) on4 k6
    have h4 := word_lay (z := "ask") (by simp)
    simp [PyData.canLay0, PyData.canLayAll0, h1, h2, h3, h4]
theorem cs_lay {zs : List Str} : ∀ (cs : Cs) (ab : List Lk) (k : Lk), OnC zs cs → OkC ab k cs → PyData.canLayAll0 (csD cs) = true
  | [], ab, k, _, _ => by unfold csD; rfl
  | (a, t) :: r, ab, k, on, ok => by
    unfold csD
    have h2 := tr_lay t (ab ++ [k]) on.2.1 ok.2.1
    have h3 := cs_lay r ab k on.2.2 ok.2.2
    have h1 := anD_lay (a := a) ok.1.2.2
    simp [PyData.canLay0, PyData.canLayAll0, h1, h2, h3]
end
mutual
theorem tr_dep : ∀ (t : Tr), (trD t).depth ≤ 3 * dep t + 2
  | .fin z => by
    unfold trD
    simp [PyData.depth, PyData.depthAll]
  | .ask k cs o => by
    unfold trD
    have h0 : dep (Tr.ask k cs o) = max (depC cs) (dep o) + 1 := by simp [dep]
    have h1 : (lkD k).depth ≤ 2 := dep_strD _
    have h2 := cs_dep cs
    have h3 := tr_dep o
    simp only [PyData.depth, PyData.depthAll]
    omega
theorem cs_dep : ∀ (cs : Cs), PyData.depthAll (csD cs) ≤ 3 * depC cs + 3
  | [] => by unfold csD; simp [PyData.depthAll]
  | (a, t) :: r => by
    unfold csD
    have h0 : depC ((a, t) :: r) = max (dep t) (depC r) := by simp [depC]
    have h1 := anD_dep a
    have h2 := tr_dep t
    have h3 := cs_dep r
    simp only [PyData.depth, PyData.depthAll]
    omega
end
theorem cs_shaped {zs : List Str} {cs : Cs} {ab : List Lk} {k : Lk} (on : OnC zs cs) (ok : OkC ab k cs) (h : depC cs ≤ 5) : SeqAt.shaped (.tuple (csD cs)) = true := by
  refine shaped_mk (by simp only [PyData.canLay0]; exact cs_lay cs ab k on ok) ?_
  have := cs_dep cs
  simp only [PyData.depth]
  omega
theorem cs_ne0 (cs : Cs) : PyData.eqv (.tuple (csD cs)) (.tuple []) = decide (cs = []) := by
  cases cs with
  | nil => unfold csD; rfl
  | cons c r =>
    obtain ⟨a, t⟩ := c
    unfold csD
    simp [PyData.eqv, PyData.eqvAll]
end T5

set_option maxHeartbeats 3900000
namespace T5
open PySem PySem.Spec PyProof.Rows L2 TL
open C8 (pss_cut tCut pe_gc)
open CB XW LE LR
abbrev sLUns : Stmt := top 46
theorem TrsAt.tup {H H' : Hp} {vs : List V} {ts : List Tr} (h : TrsAt H vs ts) (s : TupS H H') : TrsAt H' vs ts := ⟨h.1, fun i v t a b => TrAt.tup s (h.2 i v t a b)⟩
theorem TrsAt.snoc {H : Hp} {vs : List V} {ts : List Tr} {v : V} {t : Tr} (h : TrsAt H vs ts) (ht : TrAt H v t) : TrsAt H (vs ++ [v]) (ts ++ [t]) := by
  refine ⟨by rw [List.length_append, List.length_append, h.1]; rfl, fun i x y a b => ?_⟩
  by_cases e : i < vs.length
  · rw [List.getElem?_append_left e] at a
    rw [List.getElem?_append_left (h.1 ▸ e)] at b
    exact h.2 i x y a b
  · have e2 := h.1
    rw [List.getElem?_append_right (by omega)] at a
    rw [List.getElem?_append_right (by omega)] at b
    have lt := (List.getElem?_eq_some_iff.mp a).1
    rw [List.length_singleton] at lt
    rw [show i - vs.length = 0 by omega] at a
    rw [show i - ts.length = 0 by omega] at b
    cases a
    cases b
    exact ht
structure UL (st l D : Addr) (t : Tr) (n c : Nat) (H H' : Hp) : Prop where
  ex : ∃ us ts, H' D = some (.lst us) ∧ TrsAt H' us ts ∧ (∀ t' ∈ ts, UP t t') ∧ ts.length ≤ n
  b : But st l H H'
  s : Strm H' st l c
theorem UL.add {st l D : Addr} {t t' : Tr} {n c : Nat} {H H1 H2 : Hp} {us : List V} {ts : List Tr} {v : V} (hD0 : H D = none) (nD : D ≠ st ∧ D ≠ l) (B : But st l H H1) (S : Strm H1 st l c) (h1 : H1 D = some (.lst us)) (h2 : TrsAt H1 us ts) (h3 : ∀ t' ∈ ts, UP t t') (h4 : ts.length ≤ n) (s : Same H1 H2) (hv : TrAt H2 v t') (up : UP t t') : UL st l D t (n + 1) c H (upd H2 D (.lst (us ++ [v]))) := by
  have tb : TupS H2 (upd H2 D (.lst (us ++ [v]))) := tupS_put (s _ _ h1) fun xs z => by cases z
  refine ⟨⟨us ++ [v], ts ++ [t'], upd_same, ((h2.tup (TupS.of s)).snoc hv).tup tb, fun x hx => ?_, by rw [List.length_append, List.length_singleton]; omega⟩, fun b u hb e1 e2 => ?_, (S.up s).put nD⟩
  · rcases List.mem_append.mp hx with hx | hx
    · exact h3 x hx
    · rw [List.mem_singleton.mp hx]
      exact up
  · rw [upd_ne fun e => by rw [e, hD0] at hb; cases hb]
    exact s _ _ (B _ _ hb e1 e2)
theorem can_lk {k : Lk} {z : Str} (h : LkOk k) (c : CanN k = true) : ∃ w0 y0, lkV k = [.str w0, .str y0] ∧ lkV (newK z k) = [.str w0, .str z] ∧ y0 ≠ "" := by
  cases k with
  | rd p => exact ⟨_, _, rfl, by show [V.str "read", V.str (js [z])] = _; rw [js_one], js_ne h.2.1 h.1⟩
  | ls p => exact ⟨_, _, rfl, by show [V.str "list", V.str (js [z])] = _; rw [js_one], js_ne h.1 fun e => by subst e; cases c⟩
  | se n => exact ⟨_, _, rfl, rfl, fun e => nm_ne h (by show tl n = []; rw [show n = "" from e]; decide +kernel)⟩
  | tl => cases c
theorem not_lk {k : Lk} (c : CanN k = false) : lkV k = [.str "tool"] ∨ lkV k = [.str "list", .str ""] := by
  cases k with
  | rd p => cases c
  | ls p =>
    have e : p = [] := by
      by_cases e : p = []
      · exact e
      · have : CanN (.ls p) = true := by show (!decide (p = [])) = true; rw [decide_eq_false e]; rfl
        rw [this] at c
        cases c
    subst e
    exact .inr rfl
  | se n => cases c
  | tl => exact .inl rfl
theorem UL.adds {st l D : Addr} {t t' : Tr} {n c : Nat} {H H1 H2 : Hp} {v : V} (hD0 : H D = none) (nD : D ≠ st ∧ D ≠ l) (u : UL st l D t n c H H1) (s : Same H1 H2) (hv : TrAt H2 v t') (up : UP t t') (hn : n < 6) : ∃ us, H2 D = some (.lst us) ∧ us.length < sizeLine ∧ TupS H1 (upd H2 D (.lst (us ++ [v]))) ∧ UL st l D t (n + 1) c H (upd H2 D (.lst (us ++ [v]))) := by
  obtain ⟨us, ts, h1, h2, h3, h4⟩ := u.ex
  have ll := h2.1
  refine ⟨us, s _ _ h1, Nat.lt_of_le_of_lt (show us.length ≤ 6 by omega) (by decide), ?_, UL.add hD0 nD u.b u.s h1 h2 h3 h4 s hv up⟩
  exact TupS.trans (TupS.of s) (tupS_put (s _ _ h1) fun xs z => by cases z)
theorem catA_mk {K : PySem.W.Frag} {Q : VK} {H : Hp} {a b : Addr} {xs ys : List V} (ha : H a = some (.tup xs)) (ny : ys ≠ []) (hb : H b = some (.tup ys)) (hz : xs.length + ys.length ≤ 1000) (fin : ∀ cx H', Same H H' → H' cx = some (.tup (xs ++ ys)) → Q (.ref cx) H') : rCatA K (.ref a) (.ref b) H Q :=
  ⟨a, b, xs, ys, rfl, rfl, SqT.of ha, SqT.of hb, Nat.le_trans hz (by decide), fun e => fin b H (Same.refl _) (by rw [e]; exact hb), fun _ e => absurd e ny, fun _ _ p hp => fin p _ (same_mk hp) upd_same⟩
theorem cs_split (cs : Cs) : cs = [] ∨ ∃ ds a t, cs = ds ++ [(a, t)] := by
  rcases List.eq_nil_or_concat cs with h | ⟨ds, ⟨a, t⟩, rfl⟩
  · exact .inl h
  · exact .inr ⟨ds, a, t, by rw [List.concat_eq_append]⟩
def spUns : Sp := fun vs H Q _ => ∃ (st l p : Addr) (c : Nat) (v : V) (t : Tr) (zs : List Str), vs = [.ref st, .ref p, v] ∧ Strm H st l c ∧ c ≤ 800000 ∧ Pool H st l p zs ∧ zs.length < 100 ∧ (∀ y ∈ zs, IsNm y) ∧ TrAt H v t ∧ dep t ≤ 4 ∧ OkT [] t ∧ OnT zs t ∧
  ∀ D H' us ts c', But st l H H' → Strm H' st l c' → c' ≤ c + 11 → H D = none → H' D = some (.lst us) → TrsAt H' us ts → (∀ t' ∈ ts, UP t t') → ts.length ≤ 5 → Q (.ref D) H'
section
variable {P : Program} {w : World} {K : PySem.W.Frag} {mg : Str → Option Value} {base : Heap}
theorem scLUns : FnScope ["_law_stream", "_law_pool_here", "_law_tree_here", "_law_found", "_law_new", "_law_answer"] ["_law_stream", "_law_pool_here", "_law_tree_here"] (defScope sLUns) := ⟨rfl, rfl, rfl, by decide +kernel, rfl, by decide +kernel, by decide +kernel⟩
theorem ok_uns {f fU fF : Addr} {fd fdU fdF : FuncData} (F : Fun K "_law_unlikes" "_law_unlikes" sLUns f fd) (T : TB mg) (aLUn : At K mg "_law_unlike" fU fdU ["_law_tree_here"]) (GLUn : FnOk P w K mg base CX0 5 fU fdU ["_law_tree_here"] (spUnl 5)) (aFresh : At K mg "_law_fresh" fF fdF ["_law_stream", "_law_taken"]) (GFresh : FnOk P w K mg base CX0 3 fF fdF ["_law_stream", "_law_taken"] spFresh) : FnOk P w K mg base CX0 6 f fd ["_law_stream", "_law_pool_here", "_law_tree_here"] spUns := by
  refine F.ok scLUns (fun vs H Q E h => ?_) (fun cdv A outer s H vs Q E hr h => ?_)
  · obtain ⟨st, l, p, c, v, t, zs, rfl, _⟩ := h
    rfl
  · obtain ⟨st, l, pp, c, v, t, zs, rfl, S, hc, PL, zl, nm, ht, hd, ok, on, k⟩ := h
    have hu := hr.units
    refine ⟨_, pss_cons (ps_set (i := 3) scLUns.nd rfl (Or.inl rfl) (pe_lst (pa_cons (pe_call GLUn (hr.mono (by decide)) rfl aLUn.m aLUn.k aLUn.b .nil pass0 (pa_cons (pv 2) pa_nil)) pa_nil)))
            (pss_cons (ps_if (pt_cmpR op_eq (pe_ix ix_tup (pv 2) pe_int (fun _ _ => rfl)) pe_str (nomark _)) (pss_one (ps_ret (pe_op op_cat (pv 3) (pe_lst (pa_cons (pe_tup (pa_cons pe_str (pa_cons (pe_tup (pa_cons pe_str pa_nil)) (pa_cons (pe_tup pa_nil) (pa_cons (pv 2) pa_nil))))) pa_nil))))) (pss_nil))
            (pss_cons (ps_set (i := 4) scLUns.nd rfl (Or.inl rfl) (pe_call GFresh (hr.mono (by decide)) rfl aFresh.m aFresh.k aFresh.b .nil pass0 (pa_cons (pv 0) (pa_cons (pv 1) pa_nil))))
            (pss_cut (ps_set (i := 5) scLUns.nd rfl (Or.inl rfl) (pe_ifExp (pt_cmpR op_eq (pe_ix ix_tup (pe_ix ix_tup (pv 2) pe_int (fun _ _ => rfl)) pe_int (fun _ _ => rfl)) pe_str (nomark _)) (pe_tup (pa_cons (pv 4) pa_nil)) pe_str))
            (pss_cut (ps_if (PW.pt (pw_and (pt_cmpR op_eq (pe_callB call_len_seq (by rfl) T.len PySem.boot_len (pa_cons (pe_ix ix_tup (pv 2) pe_int (fun _ _ => rfl)) pa_nil)) pe_int (nomark _)) (pw_and1 (pt_cmpR op_ne (pe_ix ix_tup (pe_ix ix_tup (pv 2) pe_int (fun _ _ => rfl)) pe_int (fun _ _ => rfl)) pe_str (nomark _))))) (pss_one (ps_expr (pe_bm PySem.F.plainAttrs_list PySem.F.slot_list_append PySem.F.type_list_append mt_append (pv 3) (pa_cons (pe_tup (pa_cons pe_str (pa_cons (pe_tup (pa_cons (pe_ix ix_tup (pe_ix ix_tup (pv 2) pe_int (fun _ _ => rfl)) pe_int (fun _ _ => rfl)) (pa_cons (pv 4) pa_nil))) (pa_cons (pe_ix ix_tup (pv 2) pe_int (fun _ _ => rfl)) (pa_cons (pe_ix ix_tup (pv 2) pe_int (fun _ _ => rfl)) pa_nil))))) pa_nil)))) (pss_nil))
            (pss_cons (ps_expr (pe_bm PySem.F.plainAttrs_list PySem.F.slot_list_append PySem.F.type_list_append mt_append (pv 3) (pa_cons (pe_tup (pa_cons pe_str (pa_cons (pe_ix ix_tup (pv 2) pe_int (fun _ _ => rfl)) (pa_cons (pe_op op_catA (pe_ix ix_tup (pv 2) pe_int (fun _ _ => rfl)) (pe_tup (pa_cons (pe_tup (pa_cons (pv 5) (pa_cons (pe_tup (pa_cons pe_str (pa_cons pe_str pa_nil))) pa_nil))) pa_nil))) (pa_cons (pe_ix ix_tup (pv 2) pe_int (fun _ _ => rfl)) pa_nil))))) pa_nil)))
            (pss_cut (ps_if (pt_cmpR (op_neD hu) (pe_ix ix_tup (pv 2) pe_int (fun _ _ => rfl)) (pe_tup pa_nil) (nomark _)) (pss_cons (ps_expr (pe_bm PySem.F.plainAttrs_list PySem.F.slot_list_append PySem.F.type_list_append mt_append (pv 3) (pa_cons (pe_tup (pa_cons pe_str (pa_cons (pe_ix ix_tup (pv 2) pe_int (fun _ _ => rfl)) (pa_cons (pe_slice sl_tup (pe_ix ix_tup (pv 2) pe_int (fun _ _ => rfl)) po_none (po_some (pe_un un_neg pe_int))) (pa_cons (pe_ix ix_tup (pv 2) pe_int (fun _ _ => rfl)) pa_nil))))) pa_nil)))
            (pss_one (ps_expr (pe_bm PySem.F.plainAttrs_list PySem.F.slot_list_append PySem.F.type_list_append mt_append (pv 3) (pa_cons (pe_tup (pa_cons pe_str (pa_cons (pe_ix ix_tup (pv 2) pe_int (fun _ _ => rfl)) (pa_cons (pe_op op_catA (pe_slice sl_tup (pe_ix ix_tup (pv 2) pe_int (fun _ _ => rfl)) po_none (po_some (pe_un un_neg pe_int))) (pe_tup (pa_cons (pe_tup (pa_cons (pv 5) (pa_cons (pe_ix ix_tup (pe_ix ix_tup (pe_ix ix_tup (pv 2) pe_int (fun _ _ => rfl)) (pe_un un_neg pe_int) (fun _ _ => rfl)) pe_int (fun _ _ => rfl)) pa_nil))) pa_nil))) (pa_cons (pe_ix ix_tup (pv 2) pe_int (fun _ _ => rfl)) pa_nil))))) pa_nil))))) (pss_nil))
            (pss_one (ps_ret (pv 3))))))))), ?_⟩
    refine ⟨_, rfl, v, t, [], rfl, ht, by omega, ok, fun _ _ => trivial, ⟨zs, on⟩, fun v1 H1 s1 h1 => ?_⟩
    refine ⟨by show 1 ≤ sizeLine; decide, fun D hD => ?_⟩
    have sD := same_mk (o := .lst [v1]) hD
    have hDD := upd_same (H := H1) (a := D) (o := .lst [v1])
    have hD0 := s1.free hD
    have nD := (S.up s1).ne_new hD
    generalize upd H1 D (.lst [v1]) = H2 at sD hDD ⊢
    have s2 := s1.trans sD
    have tr2 : TrsAt H2 [v1] [unM t] := ⟨rfl, fun i x y a b => by
      match i, a, b with
      | 0, a, b => cases a; cases b; exact h1.up sD
      | i + 1, a, b => simp at a⟩
    have up1 : ∀ t' ∈ [unM t], UP t t' := fun t' h => by rw [List.mem_singleton.mp h]; exact up_un hd ok
    cases ht with
    | @fin p z r =>
      refine ⟨_, rfl, p, _, 0, _, rfl, rfl, SqT.of (s2 _ _ r), atI_nat (j := 0) rfl, rfl, _, rfl, iteT ?_⟩
      refine ⟨_, rfl, by show 1 ≤ sizeLine; decide, fun q1 hq1 => ?_⟩
      have s3 := same_mk (o := .tup [.str "tool"]) hq1
      have h3 := upd_same (H := H2) (a := q1) (o := .tup [.str "tool"])
      generalize upd H2 q1 (.tup [.str "tool"]) = H3 at s3 h3 ⊢
      refine ⟨by show 0 ≤ sizeLine; decide, fun q2 hq2 => ?_⟩
      have s4 := same_mk (o := .tup []) hq2
      have h4 := upd_same (H := H3) (a := q2) (o := .tup [])
      generalize upd H3 q2 (.tup []) = H4 at s4 h4 ⊢
      refine ⟨_, rfl, by show 4 ≤ sizeLine; decide, fun q3 hq3 => ?_⟩
      have s5 := same_mk (o := .tup [.str "ask", .ref q1, .ref q2, .ref p]) hq3
      have h5 := upd_same (H := H4) (a := q3) (o := .tup [.str "ask", .ref q1, .ref q2, .ref p])
      generalize upd H4 q3 (.tup [.str "ask", .ref q1, .ref q2, .ref p]) = H5 at s5 h5 ⊢
      refine ⟨by show 1 ≤ sizeLine; decide, fun q4 hq4 => ?_⟩
      have s6 := same_mk (o := .lst [.ref q3]) hq4
      have h6 := upd_same (H := H5) (a := q4) (o := .lst [.ref q3])
      generalize upd H5 q4 (.lst [.ref q3]) = H6 at s6 h6 ⊢
      have s26 : Same H2 H6 := s3.trans (s4.trans (s5.trans s6))
      refine ⟨D, q4, [v1], [.ref q3], rfl, rfl, s26 _ _ hDD, h6, by show 2 ≤ sizeLine; decide, fun D2 hD2 => ?_⟩
      have s7 := same_mk (o := .lst ([v1] ++ [.ref q3])) hD2
      have s07 := s2.trans (s26.trans s7)
      refine k D2 _ _ [unM (.fin z), .ask .tl [] (.fin z)] c (But.same s07) (S.up s07) (by omega) ((s2.trans s26).free hD2) upd_same ((tr2.tup (TupS.of (s26.trans s7))).snoc (.ask (s6.trans s7 _ _ h5) ((s4.trans (s5.trans (s6.trans s7))) _ _ h3) ((s5.trans (s6.trans s7)) _ _ h4) .nil (.fin (s07 _ _ r)))) (fun t' h => ?_) (by show 2 ≤ 5; decide)
      rcases List.mem_cons.mp h with rfl | h
      · exact up_un hd ok
      · rw [List.mem_singleton.mp h]
        exact up_tool
    | @ask p kp cp ov xs kk cs o r rk rc cc to =>
      refine ⟨_, rfl, p, _, 0, _, rfl, rfl, SqT.of (s2 _ _ r), atI_nat (j := 0) rfl, rfl, _, rfl, iteF ?_⟩
      refine ⟨_, rfl, _, rfl, st, l, pp, c, zs, rfl, S.up s2, by omega, PL.but (But.same s2), zl, fun z H3 c3 hz nz B3 S3 hc3 => ?_⟩
      have b3 : But st l H H3 := (But.same s2).trans B3
      have tb3 : TupS H H3 := fun b xs e => tup_but (S.up s2) B3 _ _ (s2 _ _ e)
      have r3 := tb3 _ _ r
      have rk3 := tb3 _ _ rk
      have rc3 := tb3 _ _ rc
      have cc3 := CsAt.tup tb3 cc
      have to3 := TrAt.tup tb3 to
      have hD3 := B3 _ _ hDD nD.1 nD.2
      have tr3 := tr2.tup (tup_but (S.up s2) B3)
      have jz : js [z] = z := js_one z
      have onk := on.1
      refine ⟨fun σ H' => ∃ av, σ = [some (.ref st), some (.ref pp), some (.ref p), some (.ref D), some (.str z), some av] ∧ Same H3 H' ∧ AnAt H' av (newA z kk), ?_, ?_⟩
      · cases kk with
        | ls q =>
          refine ⟨_, rfl, p, _, 1, _, rfl, rfl, SqT.of r3, atI_nat (j := 1) rfl, kp, _, 0, _, rfl, rfl, SqT.of rk3, atI_nat (j := 0) rfl, rfl, _, rfl, iteT ?_⟩
          refine ⟨_, rfl, by show 1 ≤ sizeLine; decide, fun q1 hq1 => ?_⟩
          exact ⟨.ref q1, rfl, same_mk hq1, q1, rfl, upd_same⟩
        | rd q => exact ⟨_, rfl, p, _, 1, _, rfl, rfl, SqT.of r3, atI_nat (j := 1) rfl, kp, _, 0, _, rfl, rfl, SqT.of rk3, atI_nat (j := 0) rfl, rfl, _, rfl, iteF ⟨_, rfl, Same.refl _, rfl⟩⟩
        | se q => exact ⟨_, rfl, p, _, 1, _, rfl, rfl, SqT.of r3, atI_nat (j := 1) rfl, kp, _, 0, _, rfl, rfl, SqT.of rk3, atI_nat (j := 0) rfl, rfl, _, rfl, iteF ⟨_, rfl, Same.refl _, rfl⟩⟩
        | tl => exact ⟨_, rfl, p, _, 1, _, rfl, rfl, SqT.of r3, atI_nat (j := 1) rfl, kp, _, 0, _, rfl, rfl, SqT.of rk3, atI_nat (j := 0) rfl, rfl, _, rfl, iteF ⟨_, rfl, Same.refl _, rfl⟩⟩
      rintro _ H4 ⟨av, rfl, s4, ha4⟩
      have S4 := S3.up s4
      have B4 := b3.trans (But.same s4)
      have tb4 : TupS H3 H4 := TupS.of s4
      have hD4 := s4 _ _ hD3
      have tr4 := tr3.tup tb4
      have r4 := tb4 _ _ r3
      have rk4 := tb4 _ _ rk3
      have rc4 := tb4 _ _ rc3
      have cc4 := CsAt.tup tb4 cc3
      have to4 := TrAt.tup tb4 to3
      have U4 : UL st l D (.ask kk cs o) 1 c3 H H4 := ⟨⟨[v1], _, hD4, tr4, up1, Nat.le_refl _⟩, B4, S4⟩
      have hD0H := hD0
      refine ⟨fun σ H' => ∃ av, σ = [some (.ref st), some (.ref pp), some (.ref p), some (.ref D), some (.str z), some av] ∧ TupS H4 H' ∧ AnAt H' av (newA z kk) ∧ UL st l D (.ask kk cs o) 2 c3 H H', ?_, ?_⟩
      · cases cn : CanN kk with
        | false =>
          have Ux : UL st l D (.ask kk cs o) 2 c3 H H4 := by
            obtain ⟨us, ts, h1, h2, h3, h4⟩ := U4.ex
            exact ⟨⟨us, ts, h1, h2, h3, Nat.le_succ_of_le h4⟩, B4, S4⟩
          rcases not_lk cn with e | e
          · rw [e] at rk4
            exact ⟨_, rfl, p, _, 1, _, rfl, rfl, SqT.of r4, atI_nat (j := 1) rfl, kp, _, rfl, .inr (SqT.of rk4), rfl, _, rfl, iteF (iteF ⟨_, rfl, TupS.of (Same.refl _), ha4, Ux⟩)⟩
          · rw [e] at rk4
            exact ⟨_, rfl, p, _, 1, _, rfl, rfl, SqT.of r4, atI_nat (j := 1) rfl, kp, _, rfl, .inr (SqT.of rk4), rfl, _, rfl, iteT ⟨_, rfl, p, _, 1, _, rfl, rfl, SqT.of r4, atI_nat (j := 1) rfl, kp, _, 1, _, rfl, rfl, SqT.of rk4, atI_nat (j := 1) rfl, rfl, _, rfl, iteF ⟨_, rfl, TupS.of (Same.refl _), ha4, Ux⟩⟩⟩
        | true =>
          obtain ⟨w0, y0, e1, e2, ne⟩ := can_lk (z := z) ok.1 cn
          have rk4' := rk4
          rw [e1] at rk4'
          refine ⟨_, rfl, p, _, 1, _, rfl, rfl, SqT.of r4, atI_nat (j := 1) rfl, kp, _, rfl, .inr (SqT.of rk4'), rfl, _, rfl, iteT ⟨_, rfl, p, _, 1, _, rfl, rfl, SqT.of r4, atI_nat (j := 1) rfl, kp, _, 1, _, rfl, rfl, SqT.of rk4', atI_nat (j := 1) rfl, rfl, _, rfl, ?_⟩⟩
          rw [decide_eq_false (show ¬ V.str y0 = V.str "" from fun z => ne (V.str.inj z))]
          refine iteT ⟨_, rfl, .inl ⟨rfl, _, SqL.of hD4⟩, _, rfl, p, _, 1, _, rfl, rfl, SqT.of r4, atI_nat (j := 1) rfl, kp, _, 0, _, rfl, rfl, SqT.of rk4', atI_nat (j := 0) rfl, _, rfl, by show 2 ≤ sizeLine; decide, fun q1 hq1 => ?_⟩
          have s5 := same_mk (o := .tup [.str w0, .str z]) hq1
          have h5 := upd_same (H := H4) (a := q1) (o := .tup [.str w0, .str z])
          generalize upd H4 q1 (.tup [.str w0, .str z]) = H5 at s5 h5 ⊢
          refine ⟨_, rfl, p, _, 2, _, rfl, rfl, SqT.of (s5 _ _ r4), atI_nat (j := 2) rfl, _, rfl, p, _, 3, _, rfl, rfl, SqT.of (s5 _ _ r4), atI_nat (j := 3) rfl, by show 4 ≤ sizeLine; decide, fun q2 hq2 => ?_⟩
          have s6 := same_mk (o := .tup [.str "ask", .ref q1, .ref cp, ov]) hq2
          have s46 := s5.trans s6
          have hv : TrAt (upd H5 q2 (.tup [.str "ask", .ref q1, .ref cp, ov])) (.ref q2) (.ask (newK z kk) cs o) := .ask upd_same (by rw [e2]; exact s6 _ _ h5) (s46 _ _ rc4) (CsAt.up s46 cc4) (to4.up s46)
          obtain ⟨us, a1, a2, a3, a4⟩ := U4.adds hD0 nD s46 hv (up_look hd ok on hz nz cn) (by decide)
          exact ⟨D, us, _, rfl, rfl, a1, a2, _, rfl, a3, ha4.tup a3, a4⟩
      rintro _ H5 ⟨av2, rfl, tb5, ha5, U5⟩
      have r5 := tb5 _ _ r4
      have rk5 := tb5 _ _ rk4
      have rc5 := tb5 _ _ rc4
      have cc5 := CsAt.tup tb5 cc4
      have to5 := TrAt.tup tb5 to4
      obtain ⟨us5, ts5, hD5, tr5, up5, le5⟩ := U5.ex
      have onc := on.2.2.1
      have csl : cs.length ≤ 3 := on.2.1
      have xl := csAt_len cc
      have okc := ok.2.2.2.2.1
      have hdc : depC cs ≤ 5 := by
        have : dep (Tr.ask kk cs o) = max (depC cs) (dep o) + 1 := by simp [dep]
        omega
      refine ⟨_, rfl, .inl ⟨rfl, _, SqL.of hD5⟩, _, rfl, p, _, 1, _, rfl, rfl, SqT.of r5, atI_nat (j := 1) rfl, _, rfl, p, _, 2, _, rfl, rfl, SqT.of r5, atI_nat (j := 2) rfl, _, rfl, by show 2 ≤ sizeLine; decide, fun q1 hq1 => ?_⟩
      have s6 := same_mk (o := .tup [.str "end", .str "more"]) hq1
      have h6 := upd_same (H := H5) (a := q1) (o := .tup [.str "end", .str "more"])
      generalize upd H5 q1 (.tup [.str "end", .str "more"]) = H6 at s6 h6 ⊢
      refine ⟨by show 2 ≤ sizeLine; decide, fun q2 hq2 => ?_⟩
      have s7 := same_mk (o := .tup [av2, .ref q1]) hq2
      have h7 := upd_same (H := H6) (a := q2) (o := .tup [av2, .ref q1])
      generalize upd H6 q2 (.tup [av2, .ref q1]) = H7 at s7 h7 ⊢
      refine ⟨by show 1 ≤ sizeLine; decide, fun q3 hq3 => ?_⟩
      have s8 := same_mk (o := .tup [.ref q2]) hq3
      have h8 := upd_same (H := H7) (a := q3) (o := .tup [.ref q2])
      generalize upd H7 q3 (.tup [.ref q2]) = H8 at s8 h8 ⊢
      have s58 := s6.trans (s7.trans s8)
      refine catA_mk (s58 _ _ rc5) (List.cons_ne_nil _ _) h8 (show xs.length + 1 ≤ 1000 by omega) fun cx H9 s9 h9 => ?_
      have s59 := s58.trans s9
      refine ⟨_, rfl, p, _, 3, _, rfl, rfl, SqT.of (s59 _ _ r5), atI_nat (j := 3) rfl, by show 4 ≤ sizeLine; decide, fun q4 hq4 => ?_⟩
      have s10 := same_mk (o := .tup [.str "ask", .ref kp, .ref cx, ov]) hq4
      have h10 := upd_same (H := H9) (a := q4) (o := .tup [.str "ask", .ref kp, .ref cx, ov])
      generalize upd H9 q4 (.tup [.str "ask", .ref kp, .ref cx, ov]) = H10 at s10 h10 ⊢
      have s5a := s59.trans s10
      have s9a := s9.trans s10
      have hv : TrAt H10 (.ref q4) (.ask kk (cs ++ [(newA z kk, .fin "more")]) o) := .ask h10 (s5a _ _ rk5) (s10 _ _ h9) (csAt_cat (CsAt.up s5a cc5) (.cons ((s8.trans s9a) _ _ h7) (ha5.up s5a) (.fin ((s7.trans (s8.trans s9a)) _ _ h6)) .nil)) (to5.up s5a)
      obtain ⟨us6, a1, a2, tb6, U6⟩ := U5.adds hD0 nD s5a hv (up_more hd ok on hz nz) (by decide)
      refine ⟨D, us6, _, rfl, rfl, a1, a2, ?_⟩
      generalize upd H10 D (.lst (us6 ++ [.ref q4])) = G0 at tb6 U6 ⊢
      clear hv h10 h9 h8 h7 h6 s10 s9 s8 s7 s6 s58 s59 s5a s9a
      have r6 := tb6 _ _ r5
      have rk6 := tb6 _ _ rk5
      have rc6 := tb6 _ _ rc5
      have cc6 := CsAt.tup tb6 cc5
      have to6 := TrAt.tup tb6 to5
      have ha6 := ha5.tup tb6
      refine ⟨fun σ H' => σ = [some (.ref st), some (.ref pp), some (.ref p), some (.ref D), some (.str z), some av2] ∧ UL st l D (.ask kk cs o) 5 c3 H H', ?_, ?_⟩
      · refine ⟨_, rfl, p, _, 2, _, rfl, rfl, SqT.of r6, atI_nat (j := 2) rfl, by show 0 ≤ sizeLine; decide, fun e he => ?_⟩
        have s7 := same_mk (o := .tup []) he
        have h7 := upd_same (H := G0) (a := e) (o := .tup [])
        generalize upd G0 e (.tup []) = G1 at s7 h7 ⊢
        have U7 : UL st l D (.ask kk cs o) 3 c3 H G1 := by
          obtain ⟨us, ts, h1, h2, h3, h4⟩ := U6.ex
          exact ⟨⟨us, ts, s7 _ _ h1, h2.tup (TupS.of s7), h3, h4⟩, U6.b.trans (But.same s7), U6.s.up s7⟩
        have r7 := s7 _ _ r6
        have rk7 := s7 _ _ rk6
        have rc7 := s7 _ _ rc6
        have cc7 := CsAt.up s7 cc6
        have to7 := to6.up s7
        have ha7 := ha6.up s7
        refine ⟨_, _, .tup (SqT.of rc7) (cs_dp cc7), .tup (SqT.of h7) .nil, cs_shaped onc okc hdc, shaped_mk rfl (by decide), _, rfl, ?_⟩
        rw [cs_ne0]
        rcases cs_split cs with e | ⟨ds, a, t, e⟩
        · rw [decide_eq_true e]
          refine iteF ⟨rfl, ?_⟩
          obtain ⟨us, ts, h1, h2, h3, h4⟩ := U7.ex
          exact ⟨⟨us, ts, h1, h2, h3, by omega⟩, U7.b, U7.s⟩
        · rw [decide_eq_false fun z => by rw [z] at e; simp at e]
          subst e
          refine iteT ?_
          obtain ⟨ys, q, av, tv, rfl, cy, hq, ha, htv⟩ := csAt_last cc7
          have yl := csAt_len cy
          have xpos : 0 < (ys ++ [V.ref q]).length := by rw [List.length_append, List.length_singleton]; omega
          have xlast : (ys ++ [V.ref q])[(ys ++ [V.ref q]).length - 1]? = some (.ref q) := by
            rw [List.length_append, List.length_singleton, Nat.add_sub_cancel, List.getElem?_append_right (Nat.le_refl _), Nat.sub_self]
            rfl
          have ecut : cutV (ys ++ [V.ref q]) none (some (-1 : Int)) = ys := by
            rw [cut_lastV, List.length_append, List.length_singleton, Nat.add_sub_cancel]
            simp
          have ylen : ys.length ≤ 3 := by rw [List.length_append] at csl; omega
          obtain ⟨us7, ts7, hD7, tr7, up7, le7⟩ := U7.ex
          refine ⟨_, rfl, .inl ⟨rfl, _, SqL.of hD7⟩, _, rfl, p, _, 1, _, rfl, rfl, SqT.of r7, atI_nat (j := 1) rfl, _, rfl, p, _, 2, _, rfl, rfl, SqT.of r7, atI_nat (j := 2) rfl, ?_⟩
          refine ⟨1, rfl, -1, rfl, cp, _, rfl, SqT.of rc7, no_cut xpos, fun c1 hc1 => ?_⟩
          rw [ecut]
          have s8 := same_mk (o := .tup ys) hc1
          have h8 := upd_same (H := G1) (a := c1) (o := .tup ys)
          generalize upd G1 c1 (.tup ys) = G2 at s8 h8 ⊢
          refine ⟨_, rfl, p, _, 3, _, rfl, rfl, SqT.of (s8 _ _ r7), atI_nat (j := 3) rfl, by show 4 ≤ sizeLine; decide, fun q4 hq4 => ?_⟩
          have s9 := same_mk (o := .tup [.str "ask", .ref kp, .ref c1, ov]) hq4
          have h9 := upd_same (H := G2) (a := q4) (o := .tup [.str "ask", .ref kp, .ref c1, ov])
          generalize upd G2 q4 (.tup [.str "ask", .ref kp, .ref c1, ov]) = G3 at s9 h9 ⊢
          have s79 := s8.trans s9
          have hv : TrAt G3 (.ref q4) (.ask kk ds o) := .ask h9 (s79 _ _ rk7) (s9 _ _ h8) (CsAt.up s79 cy) (to7.up s79)
          obtain ⟨us8, a1, a2, tb8, U8⟩ := U7.adds hD0 nD s79 hv (up_less hd ok) (by decide)
          refine ⟨D, us8, _, rfl, rfl, a1, a2, ?_⟩
          generalize upd G3 D (.lst (us8 ++ [.ref q4])) = G4 at tb8 U8 ⊢
          clear hv h9 h8 s9 s8 s79
          have r8 := tb8 _ _ r7
          have rk8 := tb8 _ _ rk7
          have rc8 := tb8 _ _ rc7
          have cy8 := CsAt.tup tb8 cy
          have to8 := TrAt.tup tb8 to7
          have ha8 := ha7.tup tb8
          have hq8 := tb8 _ _ hq
          have tv8 := TrAt.tup tb8 htv
          obtain ⟨us9, ts9, hD8, tr8, up8, le8⟩ := U8.ex
          refine ⟨_, rfl, .inl ⟨rfl, _, SqL.of hD8⟩, _, rfl, p, _, 1, _, rfl, rfl, SqT.of r8, atI_nat (j := 1) rfl, _, rfl, p, _, 2, _, rfl, rfl, SqT.of r8, atI_nat (j := 2) rfl, ?_⟩
          refine ⟨1, rfl, -1, rfl, cp, _, rfl, SqT.of rc8, no_cut xpos, fun c1 hc1 => ?_⟩
          rw [ecut]
          have s8 := same_mk (o := .tup ys) hc1
          have h8 := upd_same (H := G4) (a := c1) (o := .tup ys)
          generalize upd G4 c1 (.tup ys) = G5 at s8 h8 ⊢
          refine ⟨_, rfl, _, rfl, p, _, 2, _, rfl, rfl, SqT.of (s8 _ _ r8), atI_nat (j := 2) rfl, 1, rfl, cp, _, -1, _, rfl, rfl, SqT.of (s8 _ _ rc8), atI_end xlast, q, _, 1, _, rfl, rfl, SqT.of (s8 _ _ hq8), atI_nat (j := 1) rfl, by show 2 ≤ sizeLine; decide, fun q2 hq2 => ?_⟩
          have s9 := same_mk (o := .tup [av2, tv]) hq2
          have h9 := upd_same (H := G5) (a := q2) (o := .tup [av2, tv])
          generalize upd G5 q2 (.tup [av2, tv]) = G6 at s9 h9 ⊢
          refine ⟨by show 1 ≤ sizeLine; decide, fun q3 hq3 => ?_⟩
          have s10 := same_mk (o := .tup [.ref q2]) hq3
          have h10 := upd_same (H := G6) (a := q3) (o := .tup [.ref q2])
          generalize upd G6 q3 (.tup [.ref q2]) = G7 at s10 h10 ⊢
          refine catA_mk ((s9.trans s10) _ _ h8) (List.cons_ne_nil _ _) h10 (show ys.length + 1 ≤ 1000 by omega) fun cx G8 s11 h11 => ?_
          have s8b := s8.trans (s9.trans (s10.trans s11))
          refine ⟨_, rfl, p, _, 3, _, rfl, rfl, SqT.of (s8b _ _ r8), atI_nat (j := 3) rfl, by show 4 ≤ sizeLine; decide, fun q5 hq5 => ?_⟩
          have s12 := same_mk (o := .tup [.str "ask", .ref kp, .ref cx, ov]) hq5
          have h12 := upd_same (H := G8) (a := q5) (o := .tup [.str "ask", .ref kp, .ref cx, ov])
          generalize upd G8 q5 (.tup [.str "ask", .ref kp, .ref cx, ov]) = G9 at s12 h12 ⊢
          have s8c := s8b.trans s12
          have hv : TrAt G9 (.ref q5) (.ask kk (ds ++ [(newA z kk, t)]) o) := .ask h12 (s8c _ _ rk8) (s12 _ _ h11) (csAt_cat (CsAt.up s8c cy8) (.cons ((s10.trans (s11.trans s12)) _ _ h9) (ha8.up s8c) (tv8.up s8c) .nil)) (to8.up s8c)
          obtain ⟨usA, b1, b2, tbA, UA⟩ := U8.adds hD0 nD s8c hv (up_answer hd ok on hz nz) (by decide)
          exact ⟨D, usA, _, rfl, rfl, b1, b2, rfl, UA⟩
      rintro _ G9 ⟨rfl, U9⟩
      obtain ⟨us, ts, h1, h2, h3, h4⟩ := U9.ex
      exact ⟨_, rfl, k D G9 us ts c3 U9.b U9.s hc3 hD0 h1 h2 h3 h4⟩
end
end T5

set_option maxHeartbeats 3900000
namespace T5
open PySem PySem.Spec PyProof.Rows L2 TL
open C8 (pss_cut tCut pe_gc)
open CB XW LE LR
abbrev sLList : Stmt := top 42
def RwN (H : Hp) (N : Addr → Prop) (v : V) (xs : List V) : Prop := ∃ p, v = .ref p ∧ (H p = some (.tup xs) ∨ (N p ∧ H p = some (.lst xs)))
def AnN (H : Hp) (N : Addr → Prop) (v : V) : An → Prop
  | .no => v = .non
  | .tx z => v = .str z
  | .es l => RwN H N v (l.map entV)
mutual
inductive TrN (H : Hp) (N : Addr → Prop) : V → Tr → Prop
  | fin {v : V} {z : Str} (r : RwN H N v [.str "end", .str z]) : TrN H N v (.fin z)
  | ask {v kv cv ov : V} {xs : List V} {k : Lk} {cs : Cs} {o : Tr} (r : RwN H N v [.str "ask", kv, cv, ov]) (rk : RwN H N kv (lkV k)) (rc : RwN H N cv xs) (c : CsN H N xs cs) (t : TrN H N ov o) : TrN H N v (.ask k cs o)
inductive CsN (H : Hp) (N : Addr → Prop) : List V → Cs → Prop
  | nil : CsN H N [] []
  | cons {x av tv : V} {xs : List V} {a : An} {t : Tr} {cs : Cs} (r : RwN H N x [av, tv]) (ha : AnN H N av a) (ht : TrN H N tv t) (c : CsN H N xs cs) : CsN H N (x :: xs) ((a, t) :: cs)
end
structure KpN (N N' : Addr → Prop) (H H' : Hp) : Prop where
  tup : TupS H H'
  lst : ∀ p xs, N p → H p = some (.lst xs) → N' p ∧ H' p = some (.lst xs)
section
variable {N N' : Addr → Prop} {H H' : Hp}
theorem RwN.go (k : KpN N N' H H') {v : V} {xs : List V} (h : RwN H N v xs) : RwN H' N' v xs := by
  obtain ⟨p, e, h | ⟨n, h⟩⟩ := h
  · exact ⟨p, e, .inl (k.tup _ _ h)⟩
  · exact ⟨p, e, .inr (k.lst p xs n h)⟩
theorem AnN.go (k : KpN N N' H H') {v : V} {a : An} (h : AnN H N v a) : AnN H' N' v a := by
  cases a with
  | no => exact h
  | tx z => exact h
  | es l => exact RwN.go k h
mutual
theorem TrN.go (k : KpN N N' H H') : ∀ {v : V} {t : Tr}, TrN H N v t → TrN H' N' v t
  | _, _, .fin r => .fin (r.go k)
  | _, _, .ask r rk rc c t => .ask (r.go k) (rk.go k) (rc.go k) (CsN.go k c) (TrN.go k t)
theorem CsN.go (k : KpN N N' H H') : ∀ {v : List V} {t : Cs}, CsN H N v t → CsN H' N' v t
  | _, _, .nil => .nil
  | _, _, .cons r ha ht c => .cons (r.go k) (ha.go k) (TrN.go k ht) (CsN.go k c)
end
theorem RwN.at {v : V} {xs : List V} (h : RwN H N v xs) : RowAt H v xs := by
  obtain ⟨p, e, h | ⟨n, h⟩⟩ := h
  · exact ⟨p, e, .inl h⟩
  · exact ⟨p, e, .inr h⟩
theorem AnN.in {v : V} {a : An} (h : AnN H N v a) : AnIn H v a := by
  cases a with
  | no => exact h
  | tx z => exact h
  | es l => exact RwN.at h
mutual
theorem TrN.in : ∀ {v : V} {t : Tr}, TrN H N v t → TrIn H v t
  | _, _, .fin r => .fin r.at
  | _, _, .ask r rk rc c t => .ask r.at rk.at rc.at (CsN.in c) (TrN.in t)
theorem CsN.in : ∀ {v : List V} {t : Cs}, CsN H N v t → CsIn H v t
  | _, _, .nil => .nil
  | _, _, .cons r ha ht c => .cons r.at ha.in (TrN.in ht) (CsN.in c)
end
theorem AnAt.n {v : V} {a : An} (h : AnAt H v a) : AnN H N v a := by
  cases a with
  | no => exact h
  | tx z => exact h
  | es l =>
    obtain ⟨b, e, hb⟩ := h
    exact ⟨b, e, .inl hb⟩
mutual
theorem TrAt.n : ∀ {v : V} {t : Tr}, TrAt H v t → TrN H N v t
  | _, _, .fin r => .fin ⟨_, rfl, .inl r⟩
  | _, _, .ask r rk rc c t => .ask ⟨_, rfl, .inl r⟩ ⟨_, rfl, .inl rk⟩ ⟨_, rfl, .inl rc⟩ (CsAt.n c) (TrAt.n t)
theorem CsAt.n : ∀ {v : List V} {t : Cs}, CsAt H v t → CsN H N v t
  | _, _, .nil => .nil
  | _, _, .cons r ha ht c => .cons ⟨_, rfl, .inl r⟩ (AnAt.n ha) (TrAt.n ht) (CsAt.n c)
end
end
theorem CsN.snoc {H : Hp} {N : Addr → Prop} {x av tv : V} {a : An} {t : Tr} (r : RwN H N x [av, tv]) (ha : AnN H N av a) (ht : TrN H N tv t) : ∀ {xs : List V} {cs : Cs}, CsN H N xs cs → CsN H N (xs ++ [x]) (cs ++ [(a, t)])
  | _, _, .nil => .cons r ha ht .nil
  | _, _, .cons r2 ha2 ht2 c => .cons r2 ha2 ht2 (CsN.snoc r ha ht c)
theorem csN_len {H : Hp} {N : Addr → Prop} : ∀ {xs : List V} {cs : Cs}, CsN H N xs cs → xs.length = cs.length
  | _, _, .nil => rfl
  | _, _, .cons _ _ _ c => by rw [List.length_cons, List.length_cons, csN_len c]
theorem KpN.trans {N N1 N2 : Addr → Prop} {H H1 H2 : Hp} (a : KpN N N1 H H1) (b : KpN N1 N2 H1 H2) : KpN N N2 H H2 := ⟨TupS.trans a.tup b.tup, fun p xs n e => by
  obtain ⟨n1, e1⟩ := a.lst p xs n e
  exact b.lst p xs n1 e1⟩
theorem kp_but {N N' : Addr → Prop} {H H' : Hp} {st l : Addr} {c : Nat} (S : Strm H st l c) (B : But st l H H') (nn : ∀ b, N b → N' b ∧ b ≠ st ∧ b ≠ l) : KpN N N' H H' := ⟨tup_but S B, fun p xs n e => ⟨(nn p n).1, B _ _ e (nn p n).2.1 (nn p n).2.2⟩⟩
theorem kp_same {N N' : Addr → Prop} {H H' : Hp} (s : Same H H') (nn : ∀ b, N b → N' b) : KpN N N' H H' := ⟨TupS.of s, fun p xs n e => ⟨nn p n, s _ _ e⟩⟩
theorem kp_put {N N' : Addr → Prop} {H : Hp} {D : Addr} {u w : HO} (h : H D = some u) (hu : ∀ xs, u ≠ .tup xs) (nn : ∀ b, N b → N' b ∧ b ≠ D) : KpN N N' H (upd H D w) := ⟨tupS_put h hu, fun p xs n e => ⟨(nn p n).1, by rw [upd_ne (nn p n).2]; exact e⟩⟩
def drL : Nat → Nat
  | 0 => 0
  | n + 1 => 7 + 7 * drL n
def spLi (n : Nat) : Sp := fun vs H Q _ => ∃ (st l : Addr) (c : Nat) (v : V) (t : Tr) (ab : List Lk) (zs : List Str), vs = [.ref st, v] ∧ Strm H st l c ∧ c + drL n ≤ 800000 ∧ TrAt H v t ∧ dep t < n ∧ OkT ab t ∧ OnT zs t ∧
  ∀ v' H' c', But st l H H' → Strm H' st l c' → c' ≤ c + drL n → TrN H' (fun b => H b = none) v' t → Q v' H'
section
variable {P : Program} {w : World} {K : PySem.W.Frag} {mg : Str → Option Value} {base : Heap}
theorem scLList : FnScope ["_law_stream", "_law_tree_here", "_law_look_here", "_law_cases", "_law_answer", "_law_part", "_law_some"] ["_law_stream", "_law_tree_here"] (defScope sLList) := ⟨rfl, rfl, rfl, by decide +kernel, rfl, by decide +kernel, by decide +kernel⟩
theorem ok_li {f fD : Addr} {fd fdD : FuncData} (F : Fun K "_law_list" "_law_list" sLList f fd) (T : TB mg) (aLList : At K mg "_law_list" f fd ["_law_stream", "_law_tree_here"]) (aD : aD' K mg fD fdD) (GD : FnOk P w K mg base CX0 1 fD fdD ["_law_stream", "_law_many"] spDraw) : ∀ n, FnOk P w K mg base CX0 (n + 1) f fd ["_law_stream", "_law_tree_here"] (spLi n) := by
  intro n
  induction n with
  | zero =>
    refine ⟨fun vs H Q E h => ?_, fun A outer s H args us vs Q E hr he hb hv h => ?_⟩
    · obtain ⟨st, l, c, v, t, ab, zs, rfl, _⟩ := h
      rfl
    · obtain ⟨st, l, c, v, t, ab, zs, _, _, _, _, hd, _⟩ := h
      exact absurd hd (Nat.not_lt_zero _)
  | succ n GLList =>
    refine F.ok scLList (fun vs H Q E h => ?_) (fun cdv A outer s H vs Q E hr h => ?_)
    · obtain ⟨st, l, c, v, t, ab, zs, rfl, _⟩ := h
      rfl
    · obtain ⟨st, l, c, v, t, ab, zs, rfl, S, hc, ht, hd, ok, on, k⟩ := h
      have hu := hr.units
      have hrN : ∀ m, m ≤ n + 1 → Room m (A.deeper (envOfC "_law_list" (defScope sLList) s.heap.objs.size f cdv)) := fun m h => hr.mono h
      have drLn : drL (n + 1) = 7 + 7 * drL n := rfl
      refine ⟨_, pss_cons (ps_if (pt_cmpR op_eq (pe_ix ix_tup (pv 1) pe_int (fun _ _ => rfl)) pe_str (nomark _)) (pss_one (ps_ret (pe_ifExp (pt_cmpR op_eq (pe_call GD (hrN _ (by omega)) rfl aD.m aD.k aD.b .nil pass0 (pa_cons (pv 0) (pa_cons pe_int pa_nil))) pe_int (nomark _)) (pe_callTy call_list_of (by rfl) T.list (by decide +kernel) (pa_cons (pv 1) pa_nil)) (pv 1)))) (pss_nil))
              (pss_cut (ps_set (i := 2) scLList.nd rfl (Or.inl rfl) (pe_ifExp (pt_cmpR op_eq (pe_call GD (hrN _ (by omega)) rfl aD.m aD.k aD.b .nil pass0 (pa_cons (pv 0) (pa_cons pe_int pa_nil))) pe_int (nomark _)) (pe_callTy call_list_of (by rfl) T.list (by decide +kernel) (pa_cons (pe_ix ix_tup (pv 1) pe_int (fun _ _ => rfl)) pa_nil)) (pe_ix ix_tup (pv 1) pe_int (fun _ _ => rfl))))
              (pss_cons (ps_set (i := 3) scLList.nd rfl (Or.inl rfl) (pe_lst pa_nil))
              (pss_cons (ps_for PassesOwn.never rfl (pi_tup (pe_ix ix_tup (pv 1) pe_int (fun _ _ => rfl))) (pg_tup rfl (pgs_cons (pg_name (i := 4) scLList.nd rfl (Or.inl rfl)) (pgs_cons (pg_name (i := 5) scLList.nd rfl (Or.inl rfl)) pgs_nil))) (pss_cut (ps_set (i := 6) scLList.nd rfl (Or.inl rfl) (pe_ifExp (PW.pt (pw_and (pt_val (pe_callB call_isi (by rfl) T.isinstance (by decide +kernel) (pa_cons (pv 4) (pa_cons (pe_bltn (v := .ty "tuple") (by rfl) T.tuple (by decide +kernel) rfl) pa_nil)))) (pw_and1 (pt_cmpR op_eq (pe_call GD (hrN _ (by omega)) rfl aD.m aD.k aD.b .nil pass0 (pa_cons (pv 0) (pa_cons pe_int pa_nil))) pe_int (nomark _))))) (pe_callTy call_list_of (by rfl) T.list (by decide +kernel) (pa_cons (pv 4) pa_nil)) (pv 4)))
              (pss_one (ps_expr (pe_bm PySem.F.plainAttrs_list PySem.F.slot_list_append PySem.F.type_list_append mt_append (pv 3) (pa_cons (pe_ix ix_list (pe_lst (pa_cons (pe_lst (pa_cons (pv 6) (pa_cons (pe_call GLList (hrN _ (by omega)) rfl aLList.m aLList.k aLList.b .nil pass0 (pa_cons (pv 0) (pa_cons (pv 5) pa_nil))) pa_nil))) (pa_cons (pe_tup (pa_cons (pv 6) (pa_cons (pe_call GLList (hrN _ (by omega)) rfl aLList.m aLList.k aLList.b .nil pass0 (pa_cons (pv 0) (pa_cons (pv 5) pa_nil))) pa_nil))) pa_nil))) (pe_call GD (hrN _ (by omega)) rfl aD.m aD.k aD.b .nil pass0 (pa_cons (pv 0) (pa_cons pe_int pa_nil))) (fun _ _ => rfl)) pa_nil))))))
              (pss_one (ps_ret (pe_lst (pa_cons (pe_ix ix_tup (pv 1) pe_int (fun _ _ => rfl)) (pa_cons (pv 2) (pa_cons (pv 3) (pa_cons (pe_call GLList (hrN _ (by omega)) rfl aLList.m aLList.k aLList.b .nil pass0 (pa_cons (pv 0) (pa_cons (pe_ix ix_tup (pv 1) pe_int (fun _ _ => rfl)) pa_nil))) pa_nil)))))))))), ?_⟩
      cases ht with
      | @fin p z r =>
        refine ⟨_, rfl, p, _, 0, _, rfl, rfl, SqT.of r, atI_nat (j := 0) rfl, rfl, _, rfl, iteT ?_⟩
        refine ⟨_, rfl, st, l, c, _, rfl, S, by omega, by decide, by decide, fun d H1 d0 d1 B1 S1 => ⟨rfl, _, rfl, ?_⟩⟩
        have r1 := tup_but S B1 _ _ r
        by_cases e : (V.int d = V.int 0)
        · rw [decide_eq_true e]
          refine iteT ⟨_, rfl, p, _, rfl, .inr (SqT.of r1), fun u hu => ?_⟩
          have nu := S1.ne_new hu
          exact k _ _ (c + 1) (B1.new hu) (S1.put nu) (by omega) (.fin ⟨u, rfl, .inr ⟨B1.none hu nu, upd_same⟩⟩)
        · rw [decide_eq_false e]
          exact iteF ⟨_, rfl, k _ _ (c + 1) B1 S1 (by omega) (.fin ⟨p, rfl, .inl r1⟩)⟩
      | @ask p kp cp ov xs kk cs o r rk rc cc to =>
        obtain ⟨lok, nin, nd, _, okc, oko⟩ := ok
        obtain ⟨_, cl, onc, ono⟩ := on
        have dc : depC cs < n ∧ dep o < n := by
          have : max (depC cs) (dep o) + 1 < n + 1 := hd
          omega
        refine ⟨_, rfl, p, _, 0, _, rfl, rfl, SqT.of r, atI_nat (j := 0) rfl, rfl, _, rfl, iteF ?_⟩
        refine ⟨fun σ H' => ∃ c1 kv, σ = [some (.ref st), some (.ref p), some kv, none, none, none, none] ∧ But st l H H' ∧ Strm H' st l c1 ∧ c1 ≤ c + 1 ∧ RwN H' (fun b => H b = none) kv (lkV kk), ?_, ?_⟩
        · refine ⟨_, rfl, st, l, c, _, rfl, S, by omega, by decide, by decide, fun d H1 d0 d1 B1 S1 => ⟨rfl, _, rfl, ?_⟩⟩
          have r1 := tup_but S B1 _ _ r
          have rk1 := tup_but S B1 _ _ rk
          by_cases e : (V.int d = V.int 0)
          · rw [decide_eq_true e]
            refine iteT ⟨_, rfl, p, _, 1, _, rfl, rfl, SqT.of r1, atI_nat (j := 1) rfl, kp, _, rfl, .inr (SqT.of rk1), fun u hu => ?_⟩
            have nu := S1.ne_new hu
            exact ⟨c + 1, _, rfl, B1.new hu, S1.put nu, Nat.le_refl _, u, rfl, .inr ⟨B1.none hu nu, upd_same⟩⟩
          · rw [decide_eq_false e]
            exact iteF ⟨_, rfl, p, _, 1, _, rfl, rfl, SqT.of r1, atI_nat (j := 1) rfl, c + 1, _, rfl, B1, S1, Nat.le_refl _, kp, rfl, .inl rk1⟩
        rintro _ H1 ⟨c1, kv, rfl, B1, S1, hc1, hk1⟩
        refine ⟨by show 0 ≤ sizeLine; decide, fun D hD => ?_⟩
        have nD := S1.ne_new hD
        have hDH := B1.none hD nD
        have B2 : But st l H (upd H1 D (.lst [])) := B1.new hD
        have S2 := S1.put (o := .lst []) nD
        have hD2 := upd_same (H := H1) (a := D) (o := .lst [])
        have hk2 := hk1.go (kp_same (N' := fun b => H b = none) (same_mk (o := .lst []) hD) fun b hb => hb)
        have n21 : ∀ b, upd H1 D (.lst []) b = none → H1 b = none := fun b hb => (same_mk (o := .lst []) hD).free hb
        generalize upd H1 D (.lst []) = H2 at B2 S2 hD2 hk2 n21 ⊢
        have r2 := tup_but S B2 _ _ r
        have rc2 := tup_but S B2 _ _ rc
        obtain ⟨cl2, cat⟩ := csAt_at (CsAt.tup (tup_but S B2) cc)
        have xl := csAt_len cc
        have tupK : ∀ {H' : Hp} {ci : Nat}, (∀ b o, H2 b = some o → b ≠ st → b ≠ l → b ≠ D → H' b = some o) → TupS H2 H' := fun k3 b zs e => k3 b _ e (S2.tup_ne e).1 (S2.tup_ne e).2 fun z => by rw [z, hD2] at e; cases e
        refine ⟨_, rfl, p, _, 2, _, rfl, rfl, SqT.of r2, atI_nat (j := 2) rfl, cp, rfl, ⟨_, SqT.of rc2⟩, for_tup (xs := xs) (fun i σ H' => ∃ x4 x5 x6 ys ci, σ = [some (.ref st), some (.ref p), some kv, some (.ref D), x4, x5, x6] ∧ (∀ b o, H2 b = some o → b ≠ st → b ≠ l → b ≠ D → H' b = some o) ∧ Strm H' st l ci ∧ ci ≤ c1 + i * (2 * drL n + 2) ∧ H' D = some (.lst ys) ∧ CsN H' (fun b => H2 b = none) ys (cs.take i))
          ⟨none, none, none, [], c1, rfl, fun b o e _ _ _ => e, S2, by omega, hD2, .nil⟩ (fun i σ H' _ ⟨_, _, _, _, ci, _, k3, _⟩ => SqT.of (tupK (ci := ci) k3 _ _ rc2)) ?_ ?_⟩
        · rintro i x σ H3 hx ⟨x4, x5, x6, ys, ci, rfl, k3, S3, hci, hD3, cn⟩
          obtain ⟨a, t, tp, av, tv, hcs, rfl, htp, han, htr⟩ := cat i x hx
          have t23 := tupK (ci := ci) k3
          have ilt : i < cs.length := (List.getElem?_eq_some_iff.mp hcs).1
          have hix : (i + 1) * (2 * drL n + 2) ≤ 3 * (2 * drL n + 2) := Nat.mul_le_mul_right _ (by omega)
          have his : (i + 1) * (2 * drL n + 2) = i * (2 * drL n + 2) + (2 * drL n + 2) := Nat.succ_mul _ _
          have htp3 := t23 _ _ htp
          have han3 := AnAt.tup han t23
          have htr3 := TrAt.tup t23 htr
          have n32 : ∀ b, H3 b = none → H2 b = none := fun b hb => by
            cases e : H2 b with
            | none => rfl
            | some o =>
              have n := S3.ne_new hb
              have := k3 b o e n.1 n.2 fun z => by rw [z, hD3] at hb; cases hb
              rw [hb] at this
              cases this
          refine ⟨tp, _, rfl, SqT.of htp3, rfl, _, _, rfl, _, _, rfl, rfl, ?_⟩
          refine ⟨fun σ H' => ∃ c4 sv, σ = [some (.ref st), some (.ref p), some kv, some (.ref D), some av, some tv, some sv] ∧ But st l H3 H' ∧ Strm H' st l c4 ∧ c4 ≤ ci + 1 ∧ AnN H' (fun b => H3 b = none) sv a, ?_, ?_⟩
          · cases a with
            | no =>
              cases (show av = .non from han3)
              exact ⟨_, rfl, .non, _, _, .type "tuple", false, rfl, .ty "tuple", .base .non, kit_ty (by decide +kernel), _, rfl, iteF (iteF ⟨_, rfl, ci, _, rfl, But.refl, S3, by omega, rfl⟩)⟩
            | tx z =>
              cases (show av = .str z from han3)
              exact ⟨_, rfl, .str z, _, _, .type "tuple", false, rfl, .ty "tuple", .base (.str _), kit_ty (by decide +kernel), _, rfl, iteF (iteF ⟨_, rfl, ci, _, rfl, But.refl, S3, by omega, rfl⟩)⟩
            | es es =>
              obtain ⟨ap, rfl, hap⟩ := id han3
              refine ⟨_, rfl, .ref ap, _, _, .type "tuple", true, rfl, .ty "tuple", .base (.tup hap), kit_ty (by decide +kernel), _, rfl, iteT ?_⟩
              refine ⟨_, rfl, st, l, ci, _, rfl, S3, by omega, by decide, by decide, fun d H4 d0 d1 B4 S4 => ⟨rfl, _, rfl, ?_⟩⟩
              have hap4 := tup_but S3 B4 _ _ hap
              by_cases e : (V.int d = V.int 0)
              · rw [decide_eq_true e]
                refine iteT ⟨_, rfl, ap, _, rfl, .inr (SqT.of hap4), fun u hu => ?_⟩
                have nu := S4.ne_new hu
                exact ⟨ci + 1, _, rfl, B4.new hu, S4.put nu, Nat.le_refl _, u, rfl, .inr ⟨B4.none hu nu, upd_same⟩⟩
              · rw [decide_eq_false e]
                exact iteF ⟨_, rfl, ci + 1, _, rfl, B4, S4, Nat.le_refl _, ap, rfl, .inl hap4⟩
          rintro _ H4 ⟨c4, sv, rfl, B4, S4, hc4, hsv⟩
          have hD4 := B4 _ _ hD3 nD.1 nD.2
          have n43 : ∀ b, H4 b = none → H3 b = none := fun b hb => B4.none hb (S4.ne_new hb)
          have htr4 := TrAt.tup (tup_but S3 B4) htr3
          have h3 : dep t ≤ depC cs := depC_mem (a, t) (List.mem_of_getElem? hcs)
          obtain ⟨sok, tok⟩ := okC_mem okc (a, t) (List.mem_of_getElem? hcs)
          have ton := (onC_mem onc (a, t) (List.mem_of_getElem? hcs)).2
          refine ⟨_, rfl, .inl ⟨rfl, _, SqL.of hD4⟩, ?_⟩
          refine ⟨_, rfl, _, rfl, _, rfl, st, l, c4, tv, t, _, zs, rfl, S4, by omega, htr4, by omega, tok, ton, fun v1 H5 c5 B5 S5 hc5 h5 => ?_⟩
          refine ⟨by show 2 ≤ sizeLine; decide, fun q1 hq1 => ?_⟩
          have hq1' := upd_same (H := H5) (a := q1) (o := .lst [sv, v1])
          have n1 := S5.ne_new hq1
          have B6 : But st l H4 (upd H5 q1 (.lst [sv, v1])) := B5.new hq1
          have S6 := S5.put (o := .lst [sv, v1]) n1
          have h6 := TrN.go (kp_same (N' := fun b => H4 b = none) (same_mk (o := .lst [sv, v1]) hq1) fun b hb => hb) h5
          have n65 : ∀ b, upd H5 q1 (.lst [sv, v1]) b = none → H5 b = none := fun b hb => (same_mk (o := .lst [sv, v1]) hq1).free hb
          generalize upd H5 q1 (.lst [sv, v1]) = H6 at hq1' B6 S6 h6 n65 ⊢
          have htr6 := TrAt.tup (tup_but S4 B6) htr4
          refine ⟨_, rfl, _, rfl, _, rfl, st, l, c5, tv, t, _, zs, rfl, S6, by omega, htr6, by omega, tok, ton, fun v2 H7 c7 B7 S7 hc7 h7 => ?_⟩
          refine ⟨by show 2 ≤ sizeLine; decide, fun q2 hq2 => ?_⟩
          have s8 := same_mk (o := .tup [sv, v2]) hq2
          have hq2' := upd_same (H := H7) (a := q2) (o := .tup [sv, v2])
          generalize upd H7 q2 (.tup [sv, v2]) = H8 at s8 hq2' ⊢
          refine ⟨by show 2 ≤ sizeLine; decide, fun q3 hq3 => ?_⟩
          have s9 := same_mk (o := .lst [.ref q1, .ref q2]) hq3
          have n3 : q3 ≠ st ∧ q3 ≠ l := (S7.up s8).ne_new hq3
          have hq3' := upd_same (H := H8) (a := q3) (o := .lst [.ref q1, .ref q2])
          generalize upd H8 q3 (.lst [.ref q1, .ref q2]) = H9 at s9 hq3' ⊢
          have s79 := s8.trans s9
          have S9 := S7.up s79
          refine ⟨_, rfl, st, l, c7, _, rfl, S9, by omega, by decide, by decide, fun d HA d0 d1 BA SA => ?_⟩
          have n6l : q1 ≠ st ∧ q1 ≠ l := n1
          have hq3A : HA q3 = some (.lst [.ref q1, .ref q2]) := BA _ _ hq3' n3.1 n3.2
          have hq1A : HA q1 = some (.lst [sv, v1]) := BA _ _ (s79 _ _ (B7 _ _ hq1' n1.1 n1.2)) n1.1 n1.2
          have hq2A : HA q2 = some (.tup [sv, v2]) := tup_but S9 BA _ _ (s9 _ _ hq2')
          have B4A : But st l H4 HA := B6.trans (B7.trans ((But.same s79).trans BA))
          have hDA := B4A _ _ hD4 nD.1 nD.2
          have B3A : But st l H3 HA := B4.trans B4A
          have nst : ∀ b, H2 b = none → b ≠ st ∧ b ≠ l := fun b hb => S2.ne_new hb
          have nDn : ∀ b, H2 b = none → b ≠ D := fun b hb z => by rw [z, hD2] at hb; cases hb
          have kD : KpN (fun b => H2 b = none) (fun b => H2 b = none) HA (upd HA D (.lst (ys ++ [if d = 0 then V.ref q1 else V.ref q2]))) := kp_put hDA (fun zs z => by cases z) fun b hb => ⟨hb, nDn b hb⟩
          have cnA := CsN.go ((kp_but S3 B3A fun b hb => ⟨hb, nst b hb⟩).trans kD) cn
          have svA := AnN.go ((kp_but (N' := fun b => H2 b = none) S4 B4A fun b hb => ⟨n32 b hb, S3.ne_new hb⟩).trans kD) hsv
          have B6A : But st l H6 HA := B7.trans ((But.same s79).trans BA)
          have v1A := TrN.go ((kp_but (N' := fun b => H2 b = none) S6 B6A fun b hb => ⟨n32 b (n43 b hb), S4.ne_new hb⟩).trans kD) h6
          have n63 : ∀ b, H6 b = none → H4 b = none := fun b hb => B6.none hb (S6.ne_new hb)
          have v2A := TrN.go ((kp_but (N' := fun b => H2 b = none) S7 ((But.same s79).trans BA) fun b hb => ⟨n32 b (n43 b (n63 b hb)), S6.ne_new hb⟩).trans kD) h7
          have yl := csN_len cn
          rw [List.length_take] at yl
          have fin : ∀ (rv : V), rv = (if d = 0 then V.ref q1 else V.ref q2) → RwN (upd HA D (.lst (ys ++ [rv]))) (fun b => H2 b = none) rv [sv, (if d = 0 then v1 else v2)] → ∃ x4 x5 x6 ys' ci', [some (.ref st), some (.ref p), some kv, some (.ref D), some av, some tv, some sv] = [some (.ref st), some (.ref p), some kv, some (.ref D), x4, x5, x6] ∧ (∀ b o, H2 b = some o → b ≠ st → b ≠ l → b ≠ D → upd HA D (.lst (ys ++ [rv])) b = some o) ∧ Strm (upd HA D (.lst (ys ++ [rv]))) st l ci' ∧ ci' ≤ c1 + (i + 1) * (2 * drL n + 2) ∧ upd HA D (.lst (ys ++ [rv])) D = some (.lst ys') ∧ CsN (upd HA D (.lst (ys ++ [rv]))) (fun b => H2 b = none) ys' (cs.take (i + 1)) := fun rv e rr => by
            refine ⟨_, _, _, ys ++ [rv], c7 + 1, rfl, fun b o e1 e2 e3 e4 => ?_, SA.put nD, by omega, upd_same, ?_⟩
            · rw [upd_ne e4]
              exact B3A _ _ (k3 b o e1 e2 e3 e4) e2 e3
            · rw [show cs.take (i + 1) = cs.take i ++ [(a, t)] by rw [List.take_succ, hcs]; rfl]
              rw [← e] at svA v1A v2A cnA
              by_cases z : d = 0
              · rw [if_pos z] at rr
                exact CsN.snoc rr svA v1A cnA
              · rw [if_neg z] at rr
                exact CsN.snoc rr svA v2A cnA
          have yl2 : ys.length < sizeLine := Nat.lt_of_le_of_lt (show ys.length ≤ 3 by omega) (by decide)
          by_cases z : d = 0
          · subst z
            exact ⟨q3, _, 0, _, rfl, rfl, SqL.of hq3A, atI_nat (j := 0) rfl, D, ys, _, rfl, rfl, hDA, yl2, fin (.ref q1) rfl ⟨q1, rfl, .inr ⟨n32 _ (n43 _ (B5.none hq1 n1)), by rw [upd_ne (nDn _ (n32 _ (n43 _ (B5.none hq1 n1))))]; exact hq1A⟩⟩⟩
          · have z1 : d = 1 := by omega
            subst z1
            exact ⟨q3, _, 1, _, rfl, rfl, SqL.of hq3A, atI_nat (j := 1) rfl, D, ys, _, rfl, rfl, hDA, yl2, fin (.ref q2) rfl ⟨q2, rfl, .inl (tupS_put hDA (fun zs z => by cases z) _ _ hq2A)⟩⟩
        · rintro _ H3 ⟨x4, x5, x6, ys, ci, rfl, k3, S3, hci, hD3, cn⟩
          have t23 := tupK (ci := ci) k3
          have hix : xs.length * (2 * drL n + 2) ≤ 3 * (2 * drL n + 2) := Nat.mul_le_mul_right _ (by omega)
          rw [xl, List.take_length] at cn
          have to3 := TrAt.tup t23 (TrAt.tup (tup_but S B2) to)
          refine ⟨_, rfl, p, _, 0, _, rfl, rfl, SqT.of (t23 _ _ r2), atI_nat (j := 0) rfl, _, rfl, _, rfl, _, rfl, _, rfl, p, _, 3, _, rfl, rfl, SqT.of (t23 _ _ r2), atI_nat (j := 3) rfl, st, l, ci, ov, o, _, zs, rfl, S3, by omega, to3, dc.2, oko, ono, fun v1 H4 c4 B4 S4 hc4 h4 => ?_⟩
          refine ⟨by show 4 ≤ sizeLine; decide, fun u hu => ?_⟩
          have s5 := same_mk (o := .lst [.str "ask", kv, .ref D, v1]) hu
          have h5 := upd_same (H := H4) (a := u) (o := .lst [.str "ask", kv, .ref D, v1])
          have nu := S4.ne_new hu
          have n2H : ∀ b, H2 b = none → H b = none := fun b hb => B2.none hb (S2.ne_new hb)
          have n3H : ∀ b, H3 b = none → H b = none := fun b hb => by
            cases e : H2 b with
            | none => exact n2H b e
            | some o =>
              have n := S3.ne_new hb
              have := k3 b o e n.1 n.2 fun z => by rw [z, hD3] at hb; cases hb
              rw [hb] at this
              cases this
          have uH : H u = none := n3H u (B4.none hu nu)
          generalize upd H4 u (.lst [.str "ask", kv, .ref D, v1]) = H5 at s5 h5 ⊢
          have B35 : But st l H3 H5 := B4.trans (But.same s5)
          have B05 : But st l H H5 := fun b o e e1 e2 => B35 _ _ (k3 b o (B2 _ _ e e1 e2) e1 e2 fun z => by rw [z, hDH] at e; cases e) e1 e2
          have k25 : KpN (fun b => H b = none) (fun b => H b = none) H2 H5 → True := fun _ => trivial
          have hk5 : RwN H5 (fun b => H b = none) kv (lkV kk) := by
            obtain ⟨pk, rfl, h | ⟨n, h⟩⟩ := hk2
            · exact ⟨pk, rfl, .inl (tup_but S3 B35 _ _ (t23 _ _ h))⟩
            · have e1 : pk ≠ st ∧ pk ≠ l := S.ne_new n
              have e2 : pk ≠ D := fun z => by
                rw [z, hD2] at h
                have := HO.lst.inj (Option.some.inj h)
                cases kk <;> cases this
              exact ⟨pk, rfl, .inr ⟨n, B35 _ _ (k3 _ _ h e1.1 e1.2 e2) e1.1 e1.2⟩⟩
          exact k (.ref u) H5 c4 B05 (S4.up s5) (by omega) (.ask ⟨u, rfl, .inr ⟨uH, h5⟩⟩ hk5 ⟨D, rfl, .inr ⟨hDH, B35 _ _ hD3 nD.1 nD.2⟩⟩ (CsN.go (kp_but (N' := fun b => H b = none) S3 B35 fun b hb => ⟨n2H b hb, S2.ne_new hb⟩) cn) (TrN.go (kp_same s5 fun b hb => n3H b hb) h4))
end
end T5

set_option maxHeartbeats 3900000
namespace T5
open PySem PySem.Spec PyProof.Rows L2 TL
open CB XW LE LR RP FI
theorem listText_pl (ts : List Str) : (listText ts).length ≤ 2 + piled ts := by
  cases ts with
  | nil =>
    show 2 ≤ 2 + _
    omega
  | cons t r =>
    have e : (listText (t :: r)).length = (textFrom 1 (("[" : Str) ++ (if 0 > 0 then ", " else "" : String) ++ t) r).length + 1 := by
      show ((textFrom 0 "[" (t :: r)) ++ ("]" : String)).length = _
      rw [strLen_append]
      rfl
    rw [e, textFrom_length_pos r 1 _ (by decide), strLen_append, strLen_append]
    rw [piled_cons]
    have e1 : (("[" : String) : Str).length = 1 := rfl
    have e2 : (((if 0 > 0 then ", " else "" : String)) : Str).length = 0 := rfl
    rw [e1, e2]
    omega
theorem FineAll.any {dep m n : Nat} {ds : List PyData} {d : PyData} (h : FineAll dep ds m) (hn : 3 + m ≤ n) (q : d = .tuple ds ∨ d = .list ds) : Fine d (dep + 1) n := by
  rcases q with rfl | rfl
  · exact FineAll.tup h hn
  · obtain ⟨h1, h2, h3⟩ := h.sh
    refine ⟨by simpa [PyData.showable] using h1, by simp only [PyData.depth]; omega, ?_⟩
    simp only [PyData.shown]
    have q := listText_pl (PyData.shownAll ds)
    omega
mutual
theorem trIn_dq {K : PySem.W.Frag} {H : Hp} {zs : List Str} (nm : ∀ y ∈ zs, IsNm y) : ∀ {v : V} {t : Tr} (h : TrIn H v t) (d : Nat) (ab : List Lk), OnT zs t → OkT ab t → dep t ≤ d → ∃ e, Dq K H v e ∧ Fine e (3 * d + 1) (bT d)
  | _, _, .fin (z := z) r, d, ab, on, _, _ => by
    have h1 : 200 ≤ bT d := by
      cases d with
      | zero => exact Nat.le_refl _
      | succ d => unfold bT; omega
    have mz : z ∈ (["ask", "end", "good", "bad", "", "no"] : List Str) := List.mem_cons_of_mem _ (List.mem_cons_of_mem _ on)
    obtain ⟨e, he, q⟩ := row_dq (K := K) r (.cons (.str _) (.cons (.str _) .nil))
    exact ⟨e, he, (FineAll.any (.cons (fine_word (by simp)) (.cons (fine_word mz) .nil)) (by show 3 + (42 + 2 + (42 + 2 + 0)) ≤ 200; decide) q).up (by omega) h1⟩
  | _, .ask k cs o, .ask r rk rc c t, 0, ab, _, _, h => by
    have h2 : dep (Tr.ask k cs o) = max (depC cs) (dep o) + 1 := by simp [dep]
    omega
  | _, .ask k cs o, .ask r rk rc c t, d + 1, ab, on, ok, h => by
    have h2 : dep (Tr.ask k cs o) = max (depC cs) (dep o) + 1 := by simp [dep]
    obtain ⟨on1, on2, on3, on4⟩ := on
    obtain ⟨k1, k2, k3, k4, k5, k6⟩ := ok
    obtain ⟨ek, dk, f1⟩ := lk_dq (K := K) rk k1 (on_sh on1)
    obtain ⟨ds, m, hm, dc, fc⟩ := csIn_dq (K := K) nm c d ab k on1 on3 k5 (by omega)
    obtain ⟨eo, do', fo⟩ := trIn_dq (K := K) nm t d (ab ++ [k]) on4 k6 (by omega)
    obtain ⟨ec, dc', qc⟩ := row_dq (K := K) rc dc
    have fcs : Fine ec (3 * d + 3) (3 + m) := FineAll.any fc (Nat.le_refl _) qc
    have ml : m ≤ 3 * (1909 + bT d) := Nat.le_trans hm (Nat.mul_le_mul_right _ on2)
    obtain ⟨e, de, q⟩ := row_dq (K := K) r (.cons (.str _) (.cons dk (.cons dc' (.cons do' .nil))))
    refine ⟨e, de, (FineAll.any (dep := 3 * d + 3) (.cons ((fine_word (by simp)).up (Nat.zero_le _) (Nat.le_refl _)) (.cons (f1.up (by omega) (Nat.le_refl _)) (.cons fcs (.cons (fo.up (by omega) (Nat.le_refl _)) .nil)))) ?_ q).up (by omega) (Nat.le_refl _)⟩
    show _ ≤ 4 * bT d + 8000
    omega
theorem csIn_dq {K : PySem.W.Frag} {H : Hp} {zs : List Str} (nm : ∀ y ∈ zs, IsNm y) : ∀ {v : List V} {cs : Cs} (h : CsIn H v cs) (d : Nat) (ab : List Lk) (k : Lk), LkOn zs 3 k → OnC zs cs → OkC ab k cs → depC cs ≤ d → ∃ ds m, m ≤ cs.length * (1909 + bT d) ∧ DqAll K H v ds ∧ FineAll (3 * d + 2) ds m
  | _, _, .nil, d, ab, k, _, _, _, _ => ⟨[], 0, Nat.zero_le _, .nil, .nil⟩
  | _, (a, t) :: r, .cons rr ha ht c, d, ab, k, onk, on, ok, h => by
    have h1 : depC ((a, t) :: r) = max (dep t) (depC r) := by simp [depC]
    obtain ⟨ds, m, hm, dc, fc⟩ := csIn_dq (K := K) nm c d ab k onk on.2.2 ok.2.2 (by omega)
    obtain ⟨et, dt, ft⟩ := trIn_dq (K := K) nm ht d (ab ++ [k]) on.2.1 ok.2.1 (by omega)
    obtain ⟨_, as, sz⟩ := on_an on.1 onk nm
    obtain ⟨ea, da, fa⟩ := an_dq (K := K) (k := k) ha ⟨ok.1, sz, as, on_sh onk⟩
    obtain ⟨e, de, q⟩ := row_dq (K := K) rr (.cons da (.cons dt .nil))
    refine ⟨e :: ds, _, ?_, .cons de dc, .cons (FineAll.any (dep := 3 * d + 1) (.cons (fa.up (by omega) (Nat.le_refl _)) (.cons ft .nil)) (Nat.le_refl _) q) fc⟩
    rw [List.length_cons, Nat.succ_mul]
    omega
end
end T5

set_option maxHeartbeats 3900000
namespace T5
open PySem PySem.Spec PyProof.Rows L2 TL
open CB XW LE LR RP FI
mutual
theorem UAt.ex {w : World} {N : Addr → Prop} {H : Hp} : ∀ {v : V} {t : Tr}, UAt w N H v t → UAt w (fun b => N b ∧ H b ≠ none) H v t
  | _, _, .fin r => .fin r
  | _, _, .ask r rk hn hd c t => .ask r rk ⟨hn, by obtain ⟨rs, h, _⟩ := id hd; rw [h]; intro z; cases z⟩ hd (CsU.ex c) (UAt.ex t)
theorem CsU.ex {w : World} {N : Addr → Prop} {H : Hp} : ∀ {v : List (DA.NK × V)} {t : Cs}, CsU w N H v t → CsU w (fun b => N b ∧ H b ≠ none) H v t
  | _, _, .nil => .nil
  | _, _, .cons h c => .cons (UAt.ex h) (CsU.ex c)
end
theorem StN.ex {w : World} {C : Addr} {N : Addr → Prop} {H : Hp} {o : Addr} {t : Tr} (h : StN w C N H o t) : StN w C (fun b => N b ∧ H b ≠ none) H o t := by
  obtain ⟨dx, u, v, h1, h2, h3, h4⟩ := h
  exact ⟨dx, u, v, h1, h2, h3.ex, h4⟩
theorem StN.mono {w : World} {C : Addr} {N M : Addr → Prop} {H : Hp} {o : Addr} {t : Tr} (h : StN w C N H o t) (nm : ∀ b, N b → M b) : StN w C M H o t := by
  obtain ⟨dx, u, v, h1, h2, h3, h4⟩ := h
  exact ⟨dx, u, v, h1, h2, UAt.go (fun _ _ e => e) (fun _ _ _ e => e) nm h3, h4⟩
def NlS (H H' : Hp) : Prop := ∀ b o, H b = some o → (∀ xs, o ≠ .lst xs) → H' b = some o
theorem nl_put {H : Hp} {F : Addr} {xs ys : List V} (hF : H F = some (.lst xs)) : NlS H (upd H F (.lst ys)) := fun b o hb n => by
  rw [upd_ne (ne_of hb hF (n _))]
  exact hb
theorem NlS.tup {H H' : Hp} (s : NlS H H') : TupS H H' := fun b xs h => s b _ h (by intro ys z; cases z)
theorem NlS.trans {H H1 H2 : Hp} (a : NlS H H1) (b : NlS H1 H2) : NlS H H2 := fun p o h n => b p o (a p o h n) n
theorem NlS.refl {H : Hp} : NlS H H := fun _ _ h _ => h
theorem StN.nl {w : World} {C : Addr} {N : Addr → Prop} {H H' : Hp} {o : Addr} {t : Tr} (h : StN w C N H o t) (s : NlS H H') : StN w C N H' o t := by
  obtain ⟨dx, u, v, h1, h2, h3, h4⟩ := h
  exact ⟨dx, u, v, s _ _ h1 (by intro xs z; cases z), TrAt.tup s.tup h2, UAt.go s.tup (fun b rs _ e => s _ _ e (DA.do_neL)) (fun _ x => x) h3, h4⟩
def gL : Nat → Nat
  | 0 => 0
  | n + 1 => 1 + 4 * gL n
theorem flat_len {α : Type} {m : Nat} : ∀ (ls : List (List α)), (∀ l ∈ ls, l.length ≤ m) → ls.flatten.length ≤ ls.length * m
  | [], _ => by simp
  | l :: r, h => by
    have h1 := h l List.mem_cons_self
    have h2 := flat_len r fun x hx => h x (List.mem_cons_of_mem _ hx)
    rw [List.flatten_cons, List.length_append, List.length_cons, Nat.succ_mul]
    omega
theorem looks_len {zs : List Str} {n : Nat} : ∀ {t : Tr}, dep t < n → OnT zs t → (looksM t).length ≤ gL n := by
  induction n with
  | zero => intro t h; exact absurd h (Nat.not_lt_zero _)
  | succ n ih =>
    intro t h on
    cases t with
    | fin z => exact Nat.zero_le _
    | ask k cs o =>
      rw [looks_ask, List.length_cons]
      unfold looksP
      have hd : max (depC cs) (dep o) + 1 < n + 1 := h
      have h1 := flat_len (m := gL n) ((partsM cs o).map looksM) fun l hl => by
        obtain ⟨t, ht, rfl⟩ := List.mem_map.mp hl
        have dt : dep t < n := by
          rcases List.mem_append.mp ht with h2 | h2
          · obtain ⟨c, hc, rfl⟩ := List.mem_map.mp h2
            have := depC_mem c hc
            omega
          · rw [List.mem_singleton.mp h2]
            omega
        exact ih dt (parts_on on t ht)
      have h2 : ((partsM cs o).map looksM).length ≤ 4 := by
        have := on.2.1
        rw [List.length_map]
        unfold partsM
        rw [List.length_append, List.length_map]
        show cs.length + 1 ≤ 4
        omega
      have h3 : ((partsM cs o).map looksM).length * gL n ≤ 4 * gL n := Nat.mul_le_mul_right _ h2
      show _ ≤ 1 + 4 * gL n
      omega
theorem lks_dqA {K : PySem.W.Frag} {H : Hp} : ∀ {vs : List V} {ks : List Lk}, LksT H vs ks → DqAll K H vs (ks.map lkD)
  | [], [], _ => .nil
  | [], _ :: _, h => by cases h.1
  | _ :: _, [], h => by cases h.1
  | v :: vs, k :: ks, h => by
    obtain ⟨p, rfl, hp⟩ := h.2 0 v k rfl rfl
    exact .cons (lk_dqt hp) (lks_dqA ⟨by have := h.1; rw [List.length_cons, List.length_cons] at this; omega, fun i x y a b => h.2 (i + 1) x y a b⟩)
theorem lks_fine {zs : List Str} {t : Tr} {ab : List Lk} (h : dep t ≤ 4) (ok : OkT ab t) (on : OnT zs t) : Fine (.list ((nubL (looksM t)).map lkD)) 2 1000000 := by
  refine (Fine.lst (dep := 1) (n := 1900) (m := 1000000) (fun d hd => ?_) ?_).up (Nat.le_refl _) (Nat.le_refl _)
  · obtain ⟨k, hk, rfl⟩ := List.mem_map.mp hd
    have hk := nub_mem.mp hk
    exact fine_any (lkS_fine (looksM_ok (n := 5) (by omega) ok k hk) (on_sh (onT_looks (n := 5) (by omega) on k hk))) (by have := lkS_len k; omega) (Nat.le_refl 1) (.inl rfl)
  · have h1 := nub_len (looksM t)
    have h2 := looks_len (n := 5) (show dep t < 5 by omega) on
    have h3 : gL 5 = 341 := by decide
    rw [List.length_map]
    omega
end T5

set_option maxHeartbeats 3900000
namespace RQ
open PySem PySem.Spec PyProof.Rows L2 SeqAt
theorem int_declines_ob (b : Int) (u : Tok) (l : Addr) (c : Value) (dd : Option Addr) (sl : Array (Option Value)) :
    Meets (Builtin.«int.__eq__» ⟨[.int b u, .ref l], []⟩) (fun _ R s => s.heap.get? l = some { cls := c, dict := dd, data := .plain, slots := sl } ∧ R (.ok (.ret .notImplemented)) s) :=
  .of_wp fun prog w A R s h => by obtain ⟨hp, g, d, tk, os⟩ := s; obtain ⟨hl, h⟩ := h; wp_walk using wpAny_loadPart' hl, wpAny_load hl; exact ⟨_, rfl, h⟩
end RQ
namespace RQ
open PySem PySem.Spec PyProof.Rows L2 SeqAt
theorem str_declines_ob (b : Str) (u : Tok) (l : Addr) (c : Value) (dd : Option Addr) (sl : Array (Option Value)) :
    Meets (Builtin.«str.__eq__» ⟨[.str b u, .ref l], []⟩) (fun _ R s => s.heap.get? l = some { cls := c, dict := dd, data := .plain, slots := sl } ∧ R (.ok (.ret .notImplemented)) s) :=
  .of_wp fun prog w A R s h => by obtain ⟨hp, g, d, tk, os⟩ := s; obtain ⟨hl, h⟩ := h; wp_walk using wpAny_loadPart' hl, wpAny_load hl; exact ⟨_, rfl, h⟩
theorem tup_declines_ob (t x : Addr) (items : Array Value) (n : Nat) (dd dd2 : Option Addr) (sl sl2 : Array (Option Value)) (C : Value) :
    Meets (Builtin.«tuple.__eq__» ⟨[.ref t, .ref x], []⟩) (fun M R s => s.heap.get? t = some { cls := .type "tuple", dict := dd, data := .seq items n, slots := sl } ∧ s.heap.get? x = some { cls := C, dict := dd2, data := .plain, slots := sl2 } ∧ (∀ prog w, PySem.W.Looks (model prog w) s.heap (isSubtype C (.type "tuple")) false) ∧ R (.ok (.ret .notImplemented)) s) :=
  .of_wp fun prog w A R s h => by
    obtain ⟨hp, g, d, tk, os⟩ := s
    obtain ⟨hl, hx, hi, h⟩ := h
    wp_walk using wpAny_loadPart' hl, wpAny_load hl, wpAny_loadPart' hx
    refine (hi _ _).here ?_
    wp_walk using wpAny_loadPart' hl, wpAny_load hl, wpAny_loadPart' hx
    exact ⟨_, rfl, h⟩
end RQ
namespace RQ
open PySem PySem.Spec PyProof.Rows L2 SeqAt
section
variable {prog : Program} {w : World} {A : Around} {E : Value → Shared → Prop} {s : Shared} {K : PySem.W.Frag} {x C f : Addr} {ox : Obj} {od : Option Obj}
theorem rc_back {u : Value} {T id : String} {Q : Value → Shared → Prop} (hu : A.units < cLine) (X : K.In s.heap) (I : PySem.W.InstAt s.heap x ox C od) (ha : s.TypeIs u T) (h1 : Slot T (cmpInfo .Eq).2.1 id)
    (hsub : PySem.W.subIn K (.ref C) (.type T) = some false)
    (hc1 : ∀ Q' : Value → Shared → Prop, Q' .notImplemented s → wpAny (model prog w) A (call (.builtin id) [u, .ref x]) Q' E s)
    (hs : PySem.W.findIn K (.ref C) "__eq__" = some (some (.ref f))) (hf : PySem.W.isFn K (.ref f) = true)
    (h : wpAny (model prog w) A (call (.ref f) [.ref x, u]) (PySem.W.CmpBack Q) E s) : wpAny (model prog w) A (richCompare .Eq u (.ref x)) Q E s := by
  have one : wpAny (model prog w) A (tryCompare (.ref x) "__eq__" u) (fun r s' => ∃ v, r = some v ∧ Q v s') E s := by
    unfold tryCompare
    refine wpAny_bind (PySem.W.ifBound_K X I hs hf (wpAny_mono h (fun v s' hv => ?_) fun _ _ e => e))
    cases v <;> first | exact hv.elim | exact wpAny_pure ⟨_, rfl, hv⟩
  have two : wpAny (model prog w) A (tryCompare u "__eq__" (.ref x)) (fun r s' => r = none ∧ s' = s) E s :=
    wpAny_tryCompare_declines ha h1 (hc1 _ ⟨rfl, rfl, rfl⟩)
  simp only [richCompare, cmpInfo_Eq, ha.oneThing_none]
  refine wpAny_holding (wpAny_bind (wpAny_cRoomFor hu ?_))
  refine wpAny_bind (wpAny_typeOf ha (wpAny_bind (I.type.here ?_)))
  rw [show (Value.type T != Value.ref C) = true from by simp]
  simp only [if_true]
  refine wpAny_bind ((PySem.W.looks_subIn X hsub).here ?_)
  simp only [Bool.false_eq_true, if_false, Bool.not_false, if_true]
  refine wpAny_bind (m := tryCompare u _ (.ref x)) (wpAny_mono two (fun r s1 z => ?_) fun _ _ e => e)
  obtain ⟨z1, z2⟩ := z
  subst z1
  subst z2
  refine wpAny_bind (m := tryCompare (.ref x) _ u) (wpAny_mono one (fun r s2 z => ?_) fun _ _ e => e)
  obtain ⟨v, rfl, hq⟩ := z
  exact wpAny_pure hq
end
inductive Oth (K : PySem.W.Frag) (H : Hp) : V → Prop
  | non : Oth K H .non
  | int (i : Int) : Oth K H (.int i)
  | str (z : Str) : Oth K H (.str z)
  | tup {p : Addr} {xs : List V} (h : SqT K H p xs) : Oth K H (.ref p)
def SubO (K : PySem.W.Frag) (C : Addr) : Prop := ∀ T ∈ (["NoneType", "int", "str", "tuple"] : List String), PySem.W.subIn K (.ref C) (.type T) = some false
def rEqR (K : PySem.W.Frag) (C : Addr) (sp : Sp) (E : XK) : R2 := fun x y H Q => ∃ b dx fs, y = .ref b ∧ H b = some (.ins C dx fs) ∧ Oth K H x ∧ sp [.ref b, x] H Q E
section
variable {X : Cx} {k : Nat} {C f : Addr} {fd : FuncData} {ps : List Str} {sp : Sp} {CX : CXT} {E : XK}
theorem op_eqR (F : FnOk X.prog X.w X.K X.mg X.base CX k f fd ps sp) (hr : Room k X.A) (hu : X.A.units < cLine) (hb : Binds X.K fd ps []) (hx : Passes CX X E) (M : Meth X.K C "__eq__" f) (hO : SubO X.K C) : OpR X (compareOp .Eq) (rEqR X.K C sp E) := by
  intro pins s σ H x y v u Q I rx ry h
  obtain ⟨b, dx, fs, rfl, ha, ho, q⟩ := h
  cases ry
  obtain ⟨ox, od, J⟩ := OW.inst_at I ha
  obtain ⟨_, _, _, hob, _⟩ := I.hok _ _ ha
  have run := OW.cmp_back (run_fn F hr hb .nil hx I (vs := [.ref b, x]) (.cons rfl (.cons rx .nil)) q)
  show wpAny (model X.prog X.w) X.A (richCompare .Eq v (.ref b)) (EP X pins σ Q) X.xe s
  cases ho with
  | non =>
    cases rx
    exact rc_back hu I.kIn J (T := "NoneType") rfl PySem.F.slot_NoneType_eq (hO _ (by simp)) (fun _ hq => call_gives PySem.F.slot_NoneType_eq rfl PySem.F.entry_NoneType_eq (PySem.F.args_NoneType_eq_2 _ _) (NoneType___eq___none_ref_0 b) hq) M.at_ M.fn run
  | int i =>
    obtain ⟨t, rfl⟩ := rx
    exact rc_back hu I.kIn J (typeIs_int s i t) PySem.F.slot_int_eq (hO _ (by simp)) (fun _ hq => call_meets PySem.F.slot_int_eq (typeIs_int s i t) PySem.F.entry_int_eq (PySem.F.args_int_eq_2 _ _) (int_declines_ob i t b _ _ _) ⟨hob, hq⟩) M.at_ M.fn run
  | str z =>
    obtain ⟨t, rfl⟩ := rx
    exact rc_back hu I.kIn J (typeIs_str s z t) PySem.F.slot_str_eq (hO _ (by simp)) (fun _ hq => call_meets PySem.F.slot_str_eq (typeIs_str s z t) PySem.F.entry_str_eq (PySem.F.args_str_eq_2 _ _) (str_declines_ob z t b _ _ _) ⟨hob, hq⟩) M.at_ M.fn run
  | tup h =>
    cases rx
    obtain ⟨its, _, ⟨o, ho, hc, n, hd⟩, _⟩ := I.tuple h
    obtain ⟨c, dd, dt, sl⟩ := o
    dsimp only at hc hd
    subst hc
    subst hd
    exact rc_back hu I.kIn J ⟨_, ho, rfl⟩ PySem.F.slot_tuple_eq (hO _ (by simp)) (fun _ hq => call_meets PySem.F.slot_tuple_eq ⟨_, ho, rfl⟩ PySem.F.entry_tuple_eq (PySem.F.args_tuple_eq_2 _ _) (tup_declines_ob _ b _ n dd _ sl _ (.ref C)) ⟨ho, hob, fun prog w => PySem.W.looks_subIn I.kIn (hO _ (by simp)), hq⟩) M.at_ M.fn run
end
end RQ
namespace RQ
open PySem PySem.Spec PyProof.Rows L2 SeqAt
section
variable {X : Cx} {k : Nat} {C f : Addr} {fd : FuncData} {ps : List Str} {sp : Sp} {CX : CXT} {E : XK}
def rNeX (K : PySem.W.Frag) (C : Addr) (sp : Sp) (E : XK) : R2 := fun x y H Q => ∃ a dx fs t, x = .ref a ∧ H a = some (.ins C dx fs) ∧ TyX K H y t ∧ PySem.W.notFirst K C t = true ∧ sp [.ref a, y] H (fun v H' => ∃ r, v = .bl r ∧ Q (.bl (!r)) H') E
theorem op_neX (F : FnOk X.prog X.w X.K X.mg X.base CX k f fd ps sp) (hr : Room (k + 1) X.A) (hu : X.A.units + 1 < cLine) (hb : Binds X.K fd ps []) (hx : Passes CX X E) (M : Meth X.K C "__eq__" f)
    (hn : PySem.W.findIn X.K (.ref C) "__ne__" = some (some (.builtin "object.__ne__"))) (hO : PySem.W.subIn X.K (.ref C) (.type "object") = some true) : OpR X (compareOp .NotEq) (rNeX X.K C sp E) := by
  intro pins s σ H x y v u Q I rx ry h
  obtain ⟨a, dx, fs, t, rfl, ha, ht, hnf, q⟩ := h
  cases rx
  obtain ⟨ox, od, J⟩ := OW.inst_at I ha
  have hty : PySem.W.Looks (model X.prog X.w) s.heap (typeOf u) t := by
    obtain ⟨P, Z, p, _⟩ := kit_of I ry ht
    exact Z.ty _ _ I.kIn p
  have K0 := I.kIn
  have hu0 : X.A.units < cLine := by omega
  show wpAny (model X.prog X.w) X.A (richCompare .NotEq (.ref a) u) (EP X pins σ Q) X.xe s
  have isO : PySem.W.Looks (model X.prog X.w) s.heap (isInstance (.ref a) (.type "object")) true := J.type.andThen (PySem.W.looks_subIn K0 hO)
  have run := OW.run_in F (A := X.A.in1) ⟨hr.in1, rfl⟩ hb hx I (vs := [.ref a, y]) (us := [.ref a, u]) (.cons rfl (.cons ry .nil)) q
  have one : wpAny (model X.prog X.w) X.A (tryCompare (.ref a) "__ne__" u) (fun r s' => ∃ v, r = some v ∧ EP X pins σ Q v s') X.xe s := by
    simp only [tryCompare]
    refine wpAny_bind (OW.ifBound_B OW.ne_slot K0 J hn (wpAny_call (codeAny_call_builtin (by decide +kernel) PySem.F.cmpEntry_ne (PySem.W.check_slot PySem.F.cmpKind_ne PySem.F.cmpSplit_ne isO (PySem.F.cmpArgs_ne _ _) ?_))))
    unfold Builtin.«object.__ne__»
    have hu1 : X.A.in1.units < cLine := by
      have : X.A.in1.units = X.A.units + 1 := rfl
      omega
    repeat (first
      | with_reducible refine wpAny_cRoomFor hu1 ?_
      | (refine wpAny_bind (m := callSpecialIfBound? (.ref a) (Str.ofString "__eq__") [u])
          (PySem.W.ifBound_K K0 J M.at_ M.fn (wpAny_mono run (fun r s' hq => by
            obtain ⟨w, H', I', rw', b', rfl, q'⟩ := hq
            cases rw'
            have fin : EP X pins σ Q (.bool (!b')) s' := ⟨.bl (!b'), H', I', rfl, q'⟩
            repeat (first | exact ⟨_, rfl, fin⟩ | exact wpAny_pure ⟨_, rfl, fin⟩ | (refine wpAny_bind (m := truthy (.bool _)) (wpAny_truthy_bool ?_)) | wp_step)) fun _ _ e => e)))
      | wp_step)
  unfold richCompare
  simp only [oneThing_ref]
  refine wpAny_holding (wpAny_bind (wpAny_cRoomFor hu0 ?_))
  rw [cmpInfo_NotEq]
  dsimp only
  refine wpAny_bind (J.type.here (wpAny_bind (hty.here ?_)))
  split
  · rename_i q
    have e : PySem.W.subIn X.K t (.ref C) = some false := by
      rcases Bool.or_eq_true_iff.mp hnf with e | e
      · rw [beq_iff_eq.mp e] at q; simp at q
      · exact beq_iff_eq.mp e
    refine wpAny_bind ((PySem.W.looks_subIn K0 e).here ?_)
    simp only [Bool.false_eq_true, if_false]
    refine wpAny_bind (wpAny_mono one (fun r s' z => ?_) fun _ _ e => e)
    obtain ⟨v, rfl, hq⟩ := z
    exact wpAny_pure hq
  · refine wpAny_bind (wpAny_pure ?_)
    simp only [Bool.false_eq_true, if_false]
    refine wpAny_bind (wpAny_mono one (fun r s' z => ?_) fun _ _ e => e)
    obtain ⟨v, rfl, hq⟩ := z
    exact wpAny_pure hq
end
end RQ
namespace RQ
open PySem PySem.Spec PyProof.Rows L2 SeqAt
section
variable {X : Cx} {k : Nat} {C f : Addr} {fd : FuncData} {ps : List Str} {sp : Sp} {CX : CXT} {E : XK}
def rEqX (K : PySem.W.Frag) (C : Addr) (sp : Sp) (E : XK) : R2 := fun x y H Q => OW.rEqO K C sp E x y H Q ∨ rEqR K C sp E x y H Q
theorem op_eqX {K0 : PySem.W.Frag} (hK : X.K = K0) (F : FnOk X.prog X.w X.K X.mg X.base CX k f fd ps sp) (hr : Room k X.A) (hu : X.A.units < cLine) (hb : Binds X.K fd ps []) (hx : Passes CX X E) (M : Meth X.K C "__eq__" f) (hO : SubO X.K C) : OpR X (compareOp .Eq) (rEqX K0 C sp E) := by
  subst hK
  intro pins s σ H x y v u Q I rx ry h
  rcases h with h | h
  · exact OW.op_eqO F hr hu hb hx M pins s σ H x y v u Q I rx ry h
  · exact op_eqR F hr hu hb hx M hO pins s σ H x y v u Q I rx ry h
theorem op_neXK {K0 : PySem.W.Frag} (hK : X.K = K0) (F : FnOk X.prog X.w X.K X.mg X.base CX k f fd ps sp) (hr : Room (k + 1) X.A) (hu : X.A.units + 1 < cLine) (hb : Binds X.K fd ps []) (hx : Passes CX X E) (M : Meth X.K C "__eq__" f)
    (hn : PySem.W.findIn X.K (.ref C) "__ne__" = some (some (.builtin "object.__ne__"))) (hO : PySem.W.subIn X.K (.ref C) (.type "object") = some true) : OpR X (compareOp .NotEq) (rNeX K0 C sp E) := by
  subst hK
  exact op_neX F hr hu hb hx M hn hO
end
end RQ

set_option maxHeartbeats 3900000
namespace KV2
open PySem PySem.Spec PyProof.Rows L2
section
variable {X : Cx} {K0 : PySem.W.Frag}
end
end KV2

set_option maxHeartbeats 3900000
namespace LE
open PySem PySem.Spec PyProof.Rows L2 TL
open C8 (pss_cut tCut pe_gc)
open CB
section
variable {K : PySem.W.Frag} {a D : Addr} {H1 : Hp} {σ : L2.St} {tt : TT} {te : TE} {Qd : Hp → Prop} {jk jw : Nat}
end
section
variable {K : PySem.W.Frag} {a b D : Addr} {H1 : Hp} {σ : L2.St} {te : TE} {Qd : Hp → Prop} {j k : Nat} {wi1 : TI}
end
section
variable {J : It} {n : Nat} {G : Hp → Prop} {Y : Nat → Hp → V → Hp → Prop} {i j : Nat} {te : TE} {σ : L2.St} {H1 : Hp} {D : Addr} {Qd : Hp → Prop} {K : PySem.W.Frag}
end
end LE

set_option maxHeartbeats 3900000
namespace LI3
open PySem PySem.Spec PyProof.Rows L2 TL
open C8 (pss_cut tCut pe_gc)
open CB
section
variable {J : It} {n : Nat} {G : Hp → Prop} {Y : Nat → Hp → V → Hp → Prop} {j : Nat} {te : TE} {σ : L2.St} {H1 : Hp} {D : Addr} {Qd : Hp → Prop}
theorem lcJ (w : Walk J n G Y) (Iv : Hp → Prop) (ys : List V) (hn : ys.length = n) (hs : n < 1000000) (h0 : Iv (upd H1 D (.lst []))) (hG : ∀ H', Iv H' → G H')
    (put : ∀ H' xs zs, Iv H' → H' D = some (.lst xs) → Iv (upd H' D (.lst zs)))
    (turn : ∀ (m : Nat) (x y : V) (H2 H3 : Hp), ys[m]? = some y → Iv H2 → (∃ xs, H2 D = some (.lst xs)) → Y m H2 x H3 → H3 = H2 ∧ ∀ Q1 : VK, (∀ H4, Iv H4 → (∀ xs, H2 D = some (.lst xs) → H4 D = some (.lst xs)) → Q1 y H4) → te ((wipe σ [j]).set j (some x)) H2 Q1)
    (hd : ∀ H', Iv H' → H' D = some (.lst ys) → Qd H') :
    ∃ W : Nat → Nat → Hp → Prop, (∃ m, W 0 m (upd H1 D (.lst []))) ∧ ∀ i m H, W i m H →
      (J.stop i H ∧ Qd H) ∨ (J.go i H ∧ ∃ Nx : Hp → Prop, (∀ H', Nx H' → ∃ m', m' < m ∧ W (i + 1) m' H') ∧ ∀ x H', J.yld i H x H' → gName j x (wipe σ [j]) H' fun σ2 H2 => wipe σ2 [j] = wipe σ [j] ∧ tYes σ2 H2 fun b H3 =>
        if b = true then te σ2 H3 fun y H4 => ∃ acc, H4 D = some (.lst acc) ∧ acc.length < sizeLine ∧ Nx (upd H4 D (.lst (acc ++ [y]))) else Nx H3) := by
  subst hn
  refine lc_it w (fun i H' => Iv H' ∧ H' D = some (.lst (ys.take i))) ⟨h0, upd_same⟩ (fun i H' _ q => hG H' q.1) ?_ ?_
  · rintro i x H2 H3 hi ⟨s2, hd2⟩ y0
    have hy : ys[i]? = some ys[i] := List.getElem?_eq_getElem hi
    obtain ⟨rfl, tn⟩ := turn i x ys[i] H2 H3 hy s2 ⟨_, hd2⟩ y0
    refine ⟨wipe1 x, ?_⟩
    refine tn _ fun H4 s4 kp => ⟨_, kp _ hd2, ?_, put _ _ _ s4 (kp _ hd2), ?_⟩
    · rw [List.length_take]
      exact Nat.lt_of_lt_of_le (show min i ys.length < 1000000 by omega) (by decide)
    · rw [upd_same, List.take_succ, hy]
      rfl
  · rintro H' ⟨s, h⟩
    rw [List.take_length] at h
    exact hd H' s h
end
end LI3

set_option maxHeartbeats 3900000
namespace T5
open PySem PySem.Spec PyProof.Rows L2 TL
open C8 (pss_cut tCut pe_gc)
open STP CB XW LE LR RP FI
abbrev sLaw : Stmt := top 47
abbrev bd (i : Nat) : Stmt := nth (forBody (nth (defBody sLaw) 1)) i
theorem mkS {H : Hp} {o dx : Addr} {u : HO} (ho : H o = none) (hdx : H dx = none) : Same H (upd (upd H dx (.own o)) o u) := fun b q hb => by
  rw [upd_ne (fun e => by rw [e, ho] at hb; cases hb), upd_ne (fun e => by rw [e, hdx] at hb; cases hb)]
  exact hb
theorem sM1 {H H0 H1 : Hp} {o : Addr} (ho : H o = none) (sM : Same H H0) (bo : ButO o H0 H1) : Same H H1 := fun b q hb => bo b q (sM _ _ hb) fun e => by rw [e, ho] at hb; cases hb
theorem dropD {N c : Addr} {u : HO} {H H' : Hp} (b : LR.ButD N H H') (h : ItX.dropH H N c = some u) : ItX.dropH H' N c = some u := by
  have ne : c ≠ N := fun e => by rw [e, ItX.dropH_same] at h; cases h
  rw [ItX.dropH_ne ne] at h ⊢
  exact b _ _ h ne
theorem drop_same {N : Addr} {H : Hp} : Same (ItX.dropH H N) H := fun c u h => by
  have ne : c ≠ N := fun e => by rw [e, ItX.dropH_same] at h; cases h
  rwa [ItX.dropH_ne ne] at h
theorem StN.drop {w : World} {C D : Addr} {N : Addr → Prop} {H : Hp} {o : Addr} {t : Tr} {xs : List V} (h : StN w C N H o t) (hD : H D = some (.lst xs)) : StN w C N (ItX.dropH H D) o t := StN.nl h fun b u hb n => by
  rw [ItX.dropH_ne fun e => by rw [e, hD] at hb; exact n xs (Option.some.inj hb).symm]
  exact hb
theorem TrAt.tp {H : Hp} {v : V} {t : Tr} (h : TrAt H v t) : ∃ p xs, v = .ref p ∧ H p = some (.tup xs) := by
  cases h with
  | fin r => exact ⟨_, _, rfl, r⟩
  | ask r _ _ _ _ => exact ⟨_, _, rfl, r⟩
theorem none_of {H H' : Hp} {a : Addr} (s : Same H H') (h : H' a = none) : H a = none := by
  cases e : H a with
  | none => rfl
  | some u => rw [s _ _ e] at h; cases h
theorem put_alive {H : Hp} {F : Addr} {u w : HO} (hF : H F = some u) : ∀ b, H b ≠ none → upd H F w b ≠ none := fun b hb => by
  by_cases e : b = F
  · rw [e, upd_same]
    intro z
    cases z
  · rw [upd_ne e]
    exact hb
structure TD where
  p : Addr
  zs : List Str
  tv : V
  t : Tr
structure TA (st l : Addr) (d : TD) (H : Hp) : Prop where
  pl : PlO H st l d.p d.zs
  tr : TrAt H d.tv d.t
  ok : OkT [] d.t
  on : OnT d.zs d.t
  dp : dep d.t ≤ 4
theorem TA.up {st l : Addr} {d : TD} {H H' : Hp} (h : TA st l d H) (s : Same H H') : TA st l d H' := ⟨h.pl.but (But.same s), h.tr.up s, h.ok, h.on, h.dp⟩
theorem TA.but {st l : Addr} {d : TD} {H H' : Hp} {c : Nat} (h : TA st l d H) (S : Strm H st l c) (B : But st l H H') : TA st l d H' := ⟨h.pl.but B, TrAt.tup (tup_but S B) h.tr, h.ok, h.on, h.dp⟩
theorem TA.put {st l F : Addr} {d : TD} {H : Hp} {xs ys : List V} (h : TA st l d H) (hF : H F = some (.lst xs)) (n : F ≠ d.p) : TA st l d (upd H F (.lst ys)) :=
  ⟨⟨⟨by rw [upd_ne n.symm]; exact h.pl.L.h, h.pl.L.n1, h.pl.L.n2⟩, h.pl.nd, h.pl.z1, h.pl.z3, h.pl.nm⟩, TrAt.tup (nl_put hF).tup h.tr, h.ok, h.on, h.dp⟩
def StE (w : World) (C : Addr) (H : Hp) (o : Addr) (t : Tr) : Prop := StN w C (fun b => H b ≠ none) H o t
theorem StE.up {w : World} {C : Addr} {H H' : Hp} {o : Addr} {t : Tr} (h : StE w C H o t) (s : Same H H') : StE w C H' o t := (StN.up h s).mono fun b hb => by
  cases e : H b with
  | none => exact absurd e hb
  | some u => rw [s _ _ e]; intro z; cases z
theorem StE.nl {w : World} {C : Addr} {H H' : Hp} {o : Addr} {t : Tr} (h : StE w C H o t) (s : NlS H H') (n : ∀ b, H b ≠ none → H' b ≠ none) : StE w C H' o t := (StN.nl h s).mono n
theorem but_alive {st l : Addr} {H H' : Hp} {c' : Nat} (S' : Strm H' st l c') (B : But st l H H') : ∀ b, H b ≠ none → H' b ≠ none := fun b hb z => by
  have n := S'.ne_new z
  exact hb (B.none z n)
theorem StE.but {w : World} {C : Addr} {H H' : Hp} {st l : Addr} {c c' : Nat} {o : Addr} {t : Tr} (h : StE w C H o t) (S : Strm H st l c) (S' : Strm H' st l c') (B : But st l H H') : StE w C H' o t := (StN.but h S B).mono (but_alive S' B)
def spTEqU (K : PySem.W.Frag) (w : World) (C : Addr) : Sp := fun vs H Q E => spTEqB w C vs H Q E ∨ spTEqO K w C vs H Q E
theorem ok_teqU {P : Program} {w : World} {K : PySem.W.Frag} {mg : Str → Option Value} {base : Heap} {C f : Addr} {fd : FuncData} {k : Nat} {ps : List Str} (a : FnOk P w K mg base CX0 k f fd ps (spTEqB w C)) (b : FnOk P w K mg base CX0 k f fd ps (spTEqO K w C)) : FnOk P w K mg base CX0 k f fd ps (spTEqU K w C) := by
  refine ⟨fun vs H Q E h => ?_, fun A outer s H args us vs Q E hr he hb hv h => ?_⟩
  · rcases h with h | h
    · exact a.1 vs H Q E h
    · exact b.1 vs H Q E h
  · rcases h with h | h
    · exact a.2 A outer s H args us vs Q E hr he hb hv h
    · exact b.2 A outer s H args us vs Q E hr he hb hv h
def OthV (w : World) (C : Addr) (M : Addr → Prop) (H : Hp) (t : Tr) (v : V) : Prop := (∃ o2 t2, v = .ref o2 ∧ StN w C (fun b => ¬ M b) H o2 t2 ∧ dep t2 ≤ 4 ∧ sameT t t2 = false ∧ sameT t2 t = false) ∨ v = .non ∨ v = .int 5 ∨ v = .str "step" ∨ (∃ p xs, v = .ref p ∧ H p = some (.tup xs))
theorem OthV.up {w : World} {C : Addr} {M : Addr → Prop} {H H' : Hp} {t : Tr} {v : V} (h : OthV w C M H t v) (s : Same H H') : OthV w C M H' t v := by
  rcases h with ⟨o2, t2, e, h, r⟩ | h | h | h | ⟨p, xs, e, h⟩
  · exact .inl ⟨o2, t2, e, StN.up h s, r⟩
  · exact .inr (.inl h)
  · exact .inr (.inr (.inl h))
  · exact .inr (.inr (.inr (.inl h)))
  · exact .inr (.inr (.inr (.inr ⟨p, xs, e, s _ _ h⟩)))
theorem OthV.nl {w : World} {C : Addr} {M : Addr → Prop} {H H' : Hp} {t : Tr} {v : V} (h : OthV w C M H t v) (s : NlS H H') : OthV w C M H' t v := by
  rcases h with ⟨o2, t2, e, h, r⟩ | h | h | h | ⟨p, xs, e, h⟩
  · exact .inl ⟨o2, t2, e, StN.nl h s, r⟩
  · exact .inr (.inl h)
  · exact .inr (.inr (.inl h))
  · exact .inr (.inr (.inr (.inl h)))
  · exact .inr (.inr (.inr (.inr ⟨p, xs, e, s.tup _ _ h⟩)))
def OthL (w : World) (C : Addr) (M : Addr → Prop) (m : Nat) (H : Hp) (t : Tr) (vs : List V) : Prop := vs.length ≤ m ∧ ∀ v ∈ vs, OthV w C M H t v
theorem sameW {z : Str} (h : z ∈ (["good", "bad", "", "no"] : List Str)) : z ≠ "more" := fun e => by
  subst e
  revert h
  decide +kernel
theorem same_more {zs : List Str} {t : Tr} (on : OnT zs t) : sameT t (.fin "more") = false ∧ sameT (.fin "more") t = false := by
  cases t with
  | fin z =>
    have n := sameW (z := z) on
    exact ⟨by simp [sameT, n], by simp [sameT, n.symm]⟩
  | ask k cs o => exact ⟨by simp [sameT], by simp [sameT]⟩
theorem OthV.split {K : PySem.W.Frag} {w : World} {C : Addr} {M : Addr → Prop} {H : Hp} {t : Tr} {v : V} (h : OthV w C M H t v) : (∃ o2 t2, v = .ref o2 ∧ StN w C (fun b => ¬ M b) H o2 t2 ∧ dep t2 ≤ 4 ∧ sameT t t2 = false ∧ sameT t2 t = false) ∨ ∃ T ∈ (["NoneType", "int", "str", "tuple"] : List String), TyX K H v (.type T) ∧ RQ.Oth K H v := by
  rcases h with h | rfl | rfl | rfl | ⟨p, xs, rfl, h⟩
  · exact .inl h
  · exact .inr ⟨"NoneType", by simp, .base .non, .non⟩
  · exact .inr ⟨"int", by simp, .base (.int _), .int _⟩
  · exact .inr ⟨"str", by simp, .base (.str _), .str _⟩
  · exact .inr ⟨"tuple", by simp, .base (.tup h), .tup (SqT.of h)⟩
def J0  (v0 : V) (st l : Addr) (c : Nat) : L2.St → Hp → Prop := fun σ H => ∃  (x2 x3 x4 x5 x6 x7 x8 x9 x10 x11 : Option V), σ = [some v0, some (.ref st), x2, x3, x4, x5, x6, x7, x8, x9, x10, x11] ∧ Strm H st l c ∧ c ≤ 400000
def J1  (v0 : V) (st l : Addr) (c : Nat) : L2.St → Hp → Prop := fun σ H => ∃ (p : Addr) (zs : List Str) (x2 x4 x5 x6 x7 x8 x9 x10 x11 : Option V), σ = [some v0, some (.ref st), x2, some (.ref p), x4, x5, x6, x7, x8, x9, x10, x11] ∧ (∃ c' ≤ c + 34, Strm H st l c') ∧ c ≤ 400000 ∧ PlO H st l p zs
def J2  (v0 : V) (st l : Addr) (c : Nat) : L2.St → Hp → Prop := fun σ H => ∃ (d : TD) (x2 x5 x6 x7 x8 x9 x10 x11 : Option V), σ = [some v0, some (.ref st), x2, some (.ref d.p), some (d.tv), x5, x6, x7, x8, x9, x10, x11] ∧ (∃ c' ≤ c + (45 + 23910), Strm H st l c') ∧ c ≤ 400000 ∧ TA st l d H
def J3 (K : PySem.W.Frag) (v0 : V) (st l : Addr) (c : Nat) : L2.St → Hp → Prop := fun σ H => ∃ (d : TD) (pv : V) (x2 x6 x7 x8 x9 x10 x11 : Option V), σ = [some v0, some (.ref st), x2, some (.ref d.p), some (d.tv), some (pv), x6, x7, x8, x9, x10, x11] ∧ (∃ c' ≤ c + (45 + 43517), Strm H st l c') ∧ c ≤ 400000 ∧ TA st l d H ∧ TrN H (fun b => b ≠ st ∧ b ≠ l ∧ b ≠ d.p) pv d.t
def J4 (K : PySem.W.Frag) (v0 : V) (st l : Addr) (c : Nat) : L2.St → Hp → Prop := fun σ H => ∃ (d : TD) (pv : V) (e : PyData) (x2 x7 x8 x9 x10 x11 : Option V), σ = [some v0, some (.ref st), x2, some (.ref d.p), some (d.tv), some (pv), some (.str (PyData.shown e)), x7, x8, x9, x10, x11] ∧ (∃ c' ≤ c + (45 + 43517), Strm H st l c') ∧ c ≤ 400000 ∧ TA st l d H ∧ TrN H (fun b => b ≠ st ∧ b ≠ l ∧ b ≠ d.p) pv d.t ∧ Dq K H pv e ∧ Fine e 20 1000000
def J5 (K : PySem.W.Frag) (w : World) (C : Addr) (v0 : V) (st l : Addr) (c : Nat) : L2.St → Hp → Prop := fun σ H => ∃ (d : TD) (pv : V) (e : PyData) (o : Addr) (x2 x8 x9 x10 x11 : Option V), σ = [some v0, some (.ref st), x2, some (.ref d.p), some (d.tv), some (pv), some (.str (PyData.shown e)), some (.ref o), x8, x9, x10, x11] ∧ (∃ c' ≤ c + (45 + 43517), Strm H st l c') ∧ c ≤ 400000 ∧ TA st l d H ∧ TrN H (fun b => b ≠ st ∧ b ≠ l ∧ b ≠ d.p) pv d.t ∧ Dq K H pv e ∧ Fine e 20 1000000 ∧ StE w C H o d.t
def J6 (w : World) (C : Addr) (v0 : V) (st l : Addr) (c : Nat) : L2.St → Hp → Prop := fun σ H => ∃ (d : TD) (o : Addr) (x2 x5 x6 x8 x9 x10 x11 : Option V), σ = [some v0, some (.ref st), x2, some (.ref d.p), some (d.tv), x5, x6, some (.ref o), x8, x9, x10, x11] ∧ (∃ c' ≤ c + (45 + 43517), Strm H st l c') ∧ c ≤ 400000 ∧ TA st l d H ∧ StE w C H o d.t
def J7 (w : World) (C : Addr) (v0 : V) (st l : Addr) (c : Nat) : L2.St → Hp → Prop := fun σ H => ∃ (d : TD) (o D : Addr) (us : List V) (x2 x5 x6 x9 x10 x11 : Option V), σ = [some v0, some (.ref st), x2, some (.ref d.p), some (d.tv), x5, x6, some (.ref o), some (.ref D), x9, x10, x11] ∧ (∃ c' ≤ c + (45 + 43517), Strm H st l c') ∧ c ≤ 400000 ∧ TA st l d H ∧ StE w C H o d.t ∧ H D = some (.lst us) ∧ LksT H us (nubL (looksM d.t)) ∧ D ≠ st ∧ D ≠ l ∧ D ≠ d.p
def J8 (w : World) (C : Addr) (v0 : V) (st l : Addr) (c : Nat) : L2.St → Hp → Prop := fun σ H => ∃ (d : TD) (o : Addr) (x2 x5 x6 x8 x9 x10 x11 : Option V), σ = [some v0, some (.ref st), x2, some (.ref d.p), some (d.tv), x5, x6, some (.ref o), x8, x9, x10, x11] ∧ (∃ c' ≤ c + (45 + 43517 + 1023), Strm H st l c') ∧ c ≤ 400000 ∧ TA st l d H ∧ StE w C H o d.t
def J9 (w : World) (C : Addr) (m : Nat) (v0 : V) (st l : Addr) (c : Nat) : L2.St → Hp → Prop := fun σ H => ∃ (d : TD) (o F : Addr) (vs : List V) (M : Addr → Prop) (x2 x5 x6 x8 x10 x11 : Option V), σ = [some v0, some (.ref st), x2, some (.ref d.p), some (d.tv), x5, x6, some (.ref o), x8, some (.ref F), x10, x11] ∧ (∃ c' ≤ c + 44700, Strm H st l c') ∧ c ≤ 400000 ∧ TA st l d H ∧ StN w C M H o d.t ∧ H F = some (.lst vs) ∧ F ≠ st ∧ F ≠ l ∧ F ≠ d.p ∧ OthL w C M m H d.t vs
def JE  (v0 : V) (st l : Addr) (c : Nat) : L2.St → Hp → Prop := fun σ H => ∃  (x2 x3 x4 x5 x6 x7 x8 x9 x10 x11 : Option V), σ = [some v0, some (.ref st), x2, x3, x4, x5, x6, x7, x8, x9, x10, x11] ∧ (∃ c' ≤ c + 44700, Strm H st l c') ∧ c ≤ 400000

theorem scLaw : FnScope ["_law_script", "_law_stream", "_law_turn", "_law_pool_here", "_law_tree_here", "_law_passed", "_law_kept", "_law_step", "_law_looks_here", "_law_others", "_law_one", "_law_other"] ["_law_script"] (defScope sLaw) := ⟨rfl, rfl, rfl, by decide +kernel, rfl, by decide +kernel, by decide +kernel⟩
structure LV (P : Program) (w : World) (K : PySem.W.Frag) (mg : Str → Option Value) (base : Heap) (C : Addr) (mt fa : Str → Addr) (fd : Str → FuncData) : Prop where
  T : TB mg
  mRepr : mg "repr" = none
  aD : aD' K mg (fa "D") (fd "D")
  GD : FnOk P w K mg base CX0 1 (fa "D") (fd "D") ["_law_stream", "_law_many"] (spDraw)
  aPo : At K mg "_law_pool" (fa "Po") (fd "Po") ["_law_stream", "_law_many"]
  GPo : FnOk P w K mg base CX0 4 (fa "Po") (fd "Po") ["_law_stream", "_law_many"] (spPool)
  aLTree : At K mg "_law_tree" (fa "LTree") (fd "LTree") ["_law_stream", "_law_pool_here", "_law_looks_here", "_law_most"]
  GLTree : FnOk P w K mg base CX0 11 (fa "LTree") (fd "LTree") ["_law_stream", "_law_pool_here", "_law_looks_here", "_law_most"] (spLTree 5)
  aLList : At K mg "_law_list" (fa "LList") (fd "LList") ["_law_stream", "_law_tree_here"]
  GLList : FnOk P w K mg base CX0 6 (fa "LList") (fd "LList") ["_law_stream", "_law_tree_here"] (spLi 5)
  aLLof : At K mg "_law_looks_of" (fa "LLof") (fd "LLof") ["_law_tree_here"]
  GLLof : FnOk P w K mg base CX0 5 (fa "LLof") (fd "LLof") ["_law_tree_here"] (spLLof 5)
  aLTurn : At K mg "_law_turned" (fa "LTurn") (fd "LTurn") ["_law_stream", "_law_tree_here"]
  GLTurn : FnOk P w K mg base CX0 8 (fa "LTurn") (fd "LTurn") ["_law_stream", "_law_tree_here"] (spTurn 5)
  aLUns : At K mg "_law_unlikes" (fa "LUns") (fd "LUns") ["_law_stream", "_law_pool_here", "_law_tree_here"]
  GLUns : FnOk P w K mg base CX0 6 (fa "LUns") (fd "LUns") ["_law_stream", "_law_pool_here", "_law_tree_here"] (spUns)
  aSa : At K mg "_law_same" (fa "Sa") (fd "Sa") ["_law_found", "_law_due"]
  GSa : FnG P w K mg base CX0 1 (fa "Sa") (fd "Sa") ["_law_found", "_law_due"] (spSame K)
  S0 : TCl K mg C mt
  IS : ClIs K C
  SO : RQ.SubO K C
  bTIni : L2.Binds K (fd "TIni") ["self", "tree"] []
  GTIni : FnOk P w K mg base CX0 13 (mt "__init__") (fd "TIni") ["self", "tree"] (spTIniN w C 5)
  bTTree : L2.Binds K (fd "TTree") ["self"] []
  GTTree : FnOk P w K mg base CX0 1 (mt "tree") (fd "TTree") ["self"] (spTTreeN w C)
  mTLooks : Meth K C "looks" (fa "TLooks")
  bTLooks : L2.Binds K (fd "TLooks") ["self"] []
  GTLooks : FnOk P w K mg base CX0 8 (fa "TLooks") (fd "TLooks") ["self"] (spTLooks w C)
  mTEq : Meth K C "__eq__" (fa "TEqU")
  bTEqU : L2.Binds K (fd "TEqU") ["self", "other"] []
  GTEqU : FnOk P w K mg base CX0 20 (fa "TEqU") (fd "TEqU") ["self", "other"] (spTEqU K w C)
  tne : PySem.W.findIn K (.ref C) "__ne__" = some (some (.builtin "object.__ne__"))
  tso : PySem.W.subIn K (.ref C) (.type "object") = some true
  kT : ∀ t ∈ (["NoneType", "int", "bool", "str", "list", "tuple"] : List String), PySem.W.kitOne K (.type t) (.ref C) = some false ∧ PySem.W.notFirst K C (.type t) = true
  nC : PySem.W.notFirst K C (.ref C) = true
abbrev XL (P : Program) (w : World) (K : PySem.W.Frag) (mg : Str → Option Value) (base : Heap) (f : Addr) (cdv : Value) (A : Around) (outer : List Env) (s : Shared) (H : Hp) (E : XK) : Cx :=
  (cxOf CX0 P w K mg base ["_law_script", "_law_stream", "_law_turn", "_law_pool_here", "_law_tree_here", "_law_passed", "_law_kept", "_law_step", "_law_looks_here", "_law_others", "_law_one", "_law_other"] "law" (defScope sLaw) f cdv A outer s H E).nox
end T5

set_option maxHeartbeats 3900000
namespace T5
open PySem PySem.Spec PyProof.Rows L2 TL
open C8 (pss_cut tCut pe_gc)
open STP CB XW LE LR RP FI
section
variable {P : Program} {w : World} {K : PySem.W.Frag} {mg : Str → Option Value} {base : Heap} {C : Addr} {mt fa : Str → Addr} {fd : Str → FuncData}
  {f : Addr} {cdv : Value} {A : Around} {outer : List Env} {s : Shared} {H : Hp} {E : XK} {v0 : V} {st l : Addr} {c : Nat}
theorem st0  (Lv : LV P w K mg base C mt fa fd) (hg : A.guards = some []) (SM : (base.get? sysModules).isSome = true) (hr : Room 24 (A.deeper (envOfC "law" (defScope sLaw) s.heap.objs.size f cdv))) : Step (XL P w K mg base f cdv A outer s H E) (bd 0) (J0 v0 st l c) (J1 v0 st l c) := by
  obtain ⟨T, mRepr, aD, GD, aPo, GPo, aLTree, GLTree, aLList, GLList, aLLof, GLLof, aLTurn, GLTurn, aLUns, GLUns, aSa, GSa, S0, IS, SO, bTIni, GTIni, bTTree, GTTree, mTLooks, bTLooks, GTLooks, mTEq, bTEqU, GTEqU, tne, tso, kT, nC⟩ := id Lv
  have hu := hr.units
  have hu0 := Nat.lt_of_le_of_lt (Nat.le_add_right _ 64) hr.units
  have hu1 := Nat.lt_of_le_of_lt (Nat.add_le_add_left (show 1 ≤ 64 by decide) _) hr.units
  refine ⟨_, ps_set (i := 3) scLaw.nd rfl (Or.inl rfl) (pe_call GPo (hr.mono (by decide)) rfl aPo.m aPo.k aPo.b .nil pass0 (pa_cons (pv 1) (pa_cons (pe_op op_add pe_int (pe_call GD (hr.mono (by decide)) rfl aD.m aD.k aD.b .nil pass0 (pa_cons (pv 1) (pa_cons pe_int pa_nil)))) pa_nil))), fun D σ H' hA k => ?_⟩
  obtain ⟨x2, x3, x4, x5, x6, x7, x8, x9, x10, x11, rfl, S, hc⟩ := hA
  refine ⟨_, rfl, _, rfl, st, l, c, 2, rfl, S, by omega, by decide, by decide, fun d H1 d0 d1 B1 S1 => ?_⟩
  refine ⟨_, _, rfl, rfl, st, l, c + 1, 2 + d, rfl, S1, by omega, by omega, by omega, fun p zs H2 c2 zl nd nm np L B2 S2 hc2 => ?_⟩
  exact k _ _ ⟨p, zs, _, _, _, _, _, _, _, _, _, rfl, ⟨c2, by omega, S2⟩, hc, ⟨L, nd, by omega, by omega, nm⟩⟩
theorem st1  (Lv : LV P w K mg base C mt fa fd) (hg : A.guards = some []) (SM : (base.get? sysModules).isSome = true) (hr : Room 24 (A.deeper (envOfC "law" (defScope sLaw) s.heap.objs.size f cdv))) : Step (XL P w K mg base f cdv A outer s H E) (bd 1) (J1 v0 st l c) (J2 v0 st l c) := by
  obtain ⟨T, mRepr, aD, GD, aPo, GPo, aLTree, GLTree, aLList, GLList, aLLof, GLLof, aLTurn, GLTurn, aLUns, GLUns, aSa, GSa, S0, IS, SO, bTIni, GTIni, bTTree, GTTree, mTLooks, bTLooks, GTLooks, mTEq, bTEqU, GTEqU, tne, tso, kT, nC⟩ := id Lv
  have hu := hr.units
  have hu0 := Nat.lt_of_le_of_lt (Nat.le_add_right _ 64) hr.units
  have hu1 := Nat.lt_of_le_of_lt (Nat.add_le_add_left (show 1 ≤ 64 by decide) _) hr.units
  refine ⟨_, ps_set (i := 4) scLaw.nd rfl (Or.inl rfl) (pe_call GLTree (hr.mono (by decide)) rfl aLTree.m aLTree.k aLTree.b .nil pass0 (pa_cons (pv 1) (pa_cons (pv 3) (pa_cons (pe_lst pa_nil) (pa_cons pe_int pa_nil))))), fun D σ H' hA k => ?_⟩
  obtain ⟨p, zs, x2, x4, x5, x6, x7, x8, x9, x10, x11, rfl, ⟨c1, hc1, S⟩, hc, pl⟩ := hA
  refine ⟨_, rfl, _, rfl, by show 0 ≤ sizeLine; decide, fun D hD => ?_⟩
  have sD := same_mk (o := .lst []) hD
  have nD := S.ne_new hD
  have eW : dW 4 = 23910 := by decide
  refine ⟨st, l, p, D, c1, zs, [], 4, _, rfl, rfl, by decide, S.up sD, by omega, pl.L.but (But.same sD), pl.nd, by have := pl.z1; omega, by have := pl.z3; omega, pl.nm, ⟨[], upd_same, rfl, fun i v k h => by simp at h⟩, nD.1, nD.2, by decide, (fun k hk => absurd hk List.not_mem_nil), fun tv t H1 c2 htr tok ton tdep B1 S1 hc2 => ?_⟩
  exact k _ _ ⟨⟨p, zs, tv, t⟩, _, _, _, _, _, _, _, _, rfl, ⟨c2, by omega, S1⟩, hc, ⟨(pl.but (But.same sD)).but B1, htr, tok, ton, tdep⟩⟩
theorem st2  (Lv : LV P w K mg base C mt fa fd) (hg : A.guards = some []) (SM : (base.get? sysModules).isSome = true) (hr : Room 24 (A.deeper (envOfC "law" (defScope sLaw) s.heap.objs.size f cdv))) : Step (XL P w K mg base f cdv A outer s H E) (bd 2) (J2 v0 st l c) (J3 K v0 st l c) := by
  obtain ⟨T, mRepr, aD, GD, aPo, GPo, aLTree, GLTree, aLList, GLList, aLLof, GLLof, aLTurn, GLTurn, aLUns, GLUns, aSa, GSa, S0, IS, SO, bTIni, GTIni, bTTree, GTTree, mTLooks, bTLooks, GTLooks, mTEq, bTEqU, GTEqU, tne, tso, kT, nC⟩ := id Lv
  have hu := hr.units
  have hu0 := Nat.lt_of_le_of_lt (Nat.le_add_right _ 64) hr.units
  have hu1 := Nat.lt_of_le_of_lt (Nat.add_le_add_left (show 1 ≤ 64 by decide) _) hr.units
  refine ⟨_, ps_set (i := 5) scLaw.nd rfl (Or.inl rfl) (pe_call GLList (hr.mono (by decide)) rfl aLList.m aLList.k aLList.b .nil pass0 (pa_cons (pv 1) (pa_cons (pv 4) pa_nil))), fun D σ H' hA k => ?_⟩
  obtain ⟨d, x2, x5, x6, x7, x8, x9, x10, x11, rfl, ⟨c1, hc1, S⟩, hc, ta⟩ := hA
  have eW : drL 5 = 19607 := by decide
  have dp := ta.dp
  refine ⟨_, rfl, _, rfl, st, l, c1, d.tv, d.t, [], d.zs, rfl, S, by omega, ta.tr, by omega, ta.ok, ta.on, fun pv H1 c2 B1 S1 hc2 hp => ?_⟩
  exact k _ _ ⟨d, pv, _, _, _, _, _, _, _, rfl, ⟨c2, by omega, S1⟩, hc, ta.but S B1, hp.go (kp_same (Same.refl _) fun b hb => ⟨(S.ne_new hb).1, (S.ne_new hb).2, fun z => by rw [z, ta.pl.L.h] at hb; cases hb⟩)⟩
theorem st3  (Lv : LV P w K mg base C mt fa fd) (hg : A.guards = some []) (SM : (base.get? sysModules).isSome = true) (hr : Room 24 (A.deeper (envOfC "law" (defScope sLaw) s.heap.objs.size f cdv))) : Step (XL P w K mg base f cdv A outer s H E) (bd 3) (J3 K v0 st l c) (J4 K v0 st l c) := by
  obtain ⟨T, mRepr, aD, GD, aPo, GPo, aLTree, GLTree, aLList, GLList, aLLof, GLLof, aLTurn, GLTurn, aLUns, GLUns, aSa, GSa, S0, IS, SO, bTIni, GTIni, bTTree, GTTree, mTLooks, bTLooks, GTLooks, mTEq, bTEqU, GTEqU, tne, tso, kT, nC⟩ := id Lv
  have hu := hr.units
  have hu0 := Nat.lt_of_le_of_lt (Nat.le_add_right _ 64) hr.units
  have hu1 := Nat.lt_of_le_of_lt (Nat.add_le_add_left (show 1 ≤ 64 by decide) _) hr.units
  refine ⟨_, ps_set (i := 6) scLaw.nd rfl (Or.inl rfl) (pe_callB (call_repr SM hg hu) (by rfl) mRepr (by decide +kernel) (pa_cons (pv 5) pa_nil)), fun D σ H' hA k => ?_⟩
  obtain ⟨d, pv, x2, x6, x7, x8, x9, x10, x11, rfl, ⟨c1, hc1, S⟩, hc, ta, hp⟩ := hA
  have e4 : bT 4 = 731200 := by decide
  obtain ⟨e, de, fe⟩ := trIn_dq (K := K) ta.pl.nm hp.in 4 [] ta.on ta.ok ta.dp
  refine ⟨_, rfl, pv, e, rfl, de, fe.sh, (by have := fe.dp; omega), Nat.le_trans fe.sz (by rw [e4]; decide), ?_⟩
  exact k _ _ ⟨d, pv, e, _, _, _, _, _, _, rfl, ⟨c1, hc1, S⟩, hc, ta, hp, de, fe.up (by omega) (by omega)⟩
theorem st4  (Lv : LV P w K mg base C mt fa fd) (hg : A.guards = some []) (SM : (base.get? sysModules).isSome = true) (hr : Room 24 (A.deeper (envOfC "law" (defScope sLaw) s.heap.objs.size f cdv))) : Step (XL P w K mg base f cdv A outer s H E) (bd 4) (J4 K v0 st l c) (J5 K w C v0 st l c) := by
  obtain ⟨T, mRepr, aD, GD, aPo, GPo, aLTree, GLTree, aLList, GLList, aLLof, GLLof, aLTurn, GLTurn, aLUns, GLUns, aSa, GSa, S0, IS, SO, bTIni, GTIni, bTTree, GTTree, mTLooks, bTLooks, GTLooks, mTEq, bTEqU, GTEqU, tne, tso, kT, nC⟩ := id Lv
  have hu := hr.units
  have hu0 := Nat.lt_of_le_of_lt (Nat.le_add_right _ 64) hr.units
  have hu1 := Nat.lt_of_le_of_lt (Nat.add_le_add_left (show 1 ≤ 64 by decide) _) hr.units
  refine ⟨_, ps_set (i := 7) scLaw.nd rfl (Or.inr rfl) (pe_make S0.mak GTIni (hr.mono (by decide)) rfl S0.mg bTIni .nil pass0 (pa_cons (pv 5) pa_nil)), fun D σ H' hA k => ?_⟩
  obtain ⟨d, pv, e, x2, x7, x8, x9, x10, x11, rfl, ⟨c1, hc1, S⟩, hc, ta, hp, de, fe⟩ := hA
  have dp := ta.dp
  refine ⟨_, rfl, fun o1 dx1 ho1 hdx1 hne1 => ?_⟩
  have sM := mkS ho1 hdx1 (u := .ins C dx1 [])
  refine ⟨o1, dx1, pv, d.t, rfl, upd_same, TrIn.up sM hp.in, by omega, by decide, ta.ok, fun H1 bo sn => ⟨rfl, ?_⟩⟩
  have s1 := sM1 ho1 sM bo
  exact k _ _ ⟨d, pv, e, o1, _, _, _, _, _, rfl, ⟨c1, hc1, S.up s1⟩, hc, ta.up s1, hp.go (kp_same s1 fun b hb => hb), Dq.up s1 de, fe, (sn.ex).mono fun b hb => hb.2⟩
theorem st5  (Lv : LV P w K mg base C mt fa fd) (hg : A.guards = some []) (SM : (base.get? sysModules).isSome = true) (hr : Room 24 (A.deeper (envOfC "law" (defScope sLaw) s.heap.objs.size f cdv))) : Step (XL P w K mg base f cdv A outer s H E) (bd 5) (J5 K w C v0 st l c) (J5 K w C v0 st l c) := by
  obtain ⟨T, mRepr, aD, GD, aPo, GPo, aLTree, GLTree, aLList, GLList, aLLof, GLLof, aLTurn, GLTurn, aLUns, GLUns, aSa, GSa, S0, IS, SO, bTIni, GTIni, bTTree, GTTree, mTLooks, bTLooks, GTLooks, mTEq, bTEqU, GTEqU, tne, tso, kT, nC⟩ := id Lv
  have hu := hr.units
  have hu0 := Nat.lt_of_le_of_lt (Nat.le_add_right _ 64) hr.units
  have hu1 := Nat.lt_of_le_of_lt (Nat.add_le_add_left (show 1 ≤ 64 by decide) _) hr.units
  refine ⟨_, ps_if (PW.pt (pw_or (pt_cmpR op_ne (pe_callB (call_repr SM hg hu) (by rfl) mRepr (by decide +kernel) (pa_cons (pv 5) pa_nil)) (pv 6) (nomark _)) (pw_or1 (pt_not (pt_val (pe_callG GSa hg (hr.mono (by decide)) rfl aSa.m aSa.k aSa.b pass0 (pa_cons (pe_meth0 (pv 7) S0.cl (S0.me "tree" (by decide +kernel)) GTTree (hr.mono (by decide)) bTTree .nil pass0) (pa_cons (pv 4) pa_nil)))))))) (pss_one (ps_ret pe_bl)) (pss_nil), fun D σ H' hA k => ?_⟩
  obtain ⟨d, pv, e, o, x2, x8, x9, x10, x11, rfl, ⟨c1, hc1, S⟩, hc, ta, hp, de, fe, se⟩ := hA
  have e4 : bT 4 = 731200 := by decide
  have dp := ta.dp
  refine ⟨_, rfl, pv, e, rfl, de, fe.sh, (by have := fe.dp; omega), Nat.le_trans fe.sz (by decide), _, rfl, rfl, _, rfl, ?_⟩
  rw [decide_eq_true rfl]
  obtain ⟨dx, ua, va, ho, _⟩ := id se
  have ft : Fine (trD d.t) 20 1000000 := (tr_fine ta.pl.nm d.t 4 [] ta.on ta.ok dp).up (by decide) (by rw [e4]; decide)
  refine iteF ⟨_, rfl, o, dx, _, rfl, ho, rfl, o, d.t, _, rfl, se, fun v hv => ⟨_, rfl, v, d.tv, trD d.t, rfl, tr_dq hv, tr_dq ta.tr, ft, _, rfl, iteF ?_⟩⟩
  exact k _ _ ⟨d, pv, e, o, _, _, _, _, _, rfl, ⟨c1, hc1, S⟩, hc, ta, hp, de, fe, se⟩
theorem st7  (Lv : LV P w K mg base C mt fa fd) (hg : A.guards = some []) (SM : (base.get? sysModules).isSome = true) (hr : Room 24 (A.deeper (envOfC "law" (defScope sLaw) s.heap.objs.size f cdv))) : Step (XL P w K mg base f cdv A outer s H E) (bd 7) (J6 w C v0 st l c) (J7 w C v0 st l c) := by
  obtain ⟨T, mRepr, aD, GD, aPo, GPo, aLTree, GLTree, aLList, GLList, aLLof, GLLof, aLTurn, GLTurn, aLUns, GLUns, aSa, GSa, S0, IS, SO, bTIni, GTIni, bTTree, GTTree, mTLooks, bTLooks, GTLooks, mTEq, bTEqU, GTEqU, tne, tso, kT, nC⟩ := id Lv
  have hu := hr.units
  have hu0 := Nat.lt_of_le_of_lt (Nat.le_add_right _ 64) hr.units
  have hu1 := Nat.lt_of_le_of_lt (Nat.add_le_add_left (show 1 ≤ 64 by decide) _) hr.units
  refine ⟨_, ps_set (i := 8) scLaw.nd rfl (Or.inl rfl) (pe_meth0 (pv 7) S0.cl mTLooks GTLooks (hr.mono (by decide)) bTLooks .nil pass0), fun D σ H' hA k => ?_⟩
  obtain ⟨d, o, x2, x5, x6, x8, x9, x10, x11, rfl, ⟨c1, hc1, S⟩, hc, ta, se⟩ := hA
  have dp := ta.dp
  obtain ⟨dx, ua, va, ho, _⟩ := id se
  have ll : (looksM d.t).length ≤ 100000 := Nat.le_trans (looks_len (n := 5) (by omega) ta.on) (by decide)
  refine ⟨_, rfl, o, dx, _, rfl, ho, rfl, o, d.t, _, rfl, se, by omega, ll, fun D H1 us s1 hD hD1 lt => ?_⟩
  have nD := S.ne_new hD
  exact k _ _ ⟨d, o, D, us, _, _, _, _, _, _, rfl, ⟨c1, hc1, S.up s1⟩, hc, ta.up s1, se.up s1, hD1, lt, nD.1, nD.2, fun z => by rw [z, ta.pl.L.h] at hD; cases hD⟩
theorem st8  (Lv : LV P w K mg base C mt fa fd) (hg : A.guards = some []) (SM : (base.get? sysModules).isSome = true) (hr : Room 24 (A.deeper (envOfC "law" (defScope sLaw) s.heap.objs.size f cdv))) : Step (XL P w K mg base f cdv A outer s H E) (bd 8) (J7 w C v0 st l c) (J7 w C v0 st l c) := by
  obtain ⟨T, mRepr, aD, GD, aPo, GPo, aLTree, GLTree, aLList, GLList, aLLof, GLLof, aLTurn, GLTurn, aLUns, GLUns, aSa, GSa, S0, IS, SO, bTIni, GTIni, bTTree, GTTree, mTLooks, bTLooks, GTLooks, mTEq, bTEqU, GTEqU, tne, tso, kT, nC⟩ := id Lv
  have hu := hr.units
  have hu0 := Nat.lt_of_le_of_lt (Nat.le_add_right _ 64) hr.units
  have hu1 := Nat.lt_of_le_of_lt (Nat.add_le_add_left (show 1 ≤ 64 by decide) _) hr.units
  refine ⟨_, ps_if (PW.pt (pw_or (pt_not (pt_val (pe_callG GSa hg (hr.mono (by decide)) rfl aSa.m aSa.k aSa.b pass0 (pa_cons (pe_meth0 (pv 7) S0.cl (S0.me "tree" (by decide +kernel)) GTTree (hr.mono (by decide)) bTTree .nil pass0) (pa_cons (pv 4) pa_nil))))) (pw_or1 (pt_not (pt_val (pe_callG GSa hg (hr.mono (by decide)) rfl aSa.m aSa.k aSa.b pass0 (pa_cons (pv 8) (pa_cons (pe_call GLLof (hr.mono (by decide)) rfl aLLof.m aLLof.k aLLof.b .nil pass0 (pa_cons (pv 4) pa_nil)) pa_nil)))))))) (pss_one (ps_ret pe_bl)) (pss_nil), fun D σ H' hA k => ?_⟩
  obtain ⟨d, o, D, us, x2, x5, x6, x9, x10, x11, rfl, ⟨c1, hc1, S⟩, hc, ta, se, hD, lt, n1, n2, n3⟩ := hA
  have e4 : bT 4 = 731200 := by decide
  have dp := ta.dp
  obtain ⟨dx, ua, va, ho, _⟩ := id se
  have ll : (looksM d.t).length ≤ 100000 := Nat.le_trans (looks_len (n := 5) (by omega) ta.on) (by decide)
  have ft : Fine (trD d.t) 20 1000000 := (tr_fine ta.pl.nm d.t 4 [] ta.on ta.ok dp).up (by decide) (by rw [e4]; decide)
  have fl : Fine (.list ((nubL (looksM d.t)).map lkD)) 20 1000000 := (lks_fine ta.dp ta.ok ta.on).up (by decide) (Nat.le_refl _)
  refine ⟨_, rfl, o, dx, _, rfl, ho, rfl, o, d.t, _, rfl, se, fun v hv => ⟨_, rfl, v, d.tv, trD d.t, rfl, tr_dq hv, tr_dq ta.tr, ft, _, rfl, iteF ?_⟩⟩
  refine ⟨_, rfl, _, rfl, d.tv, d.t, [], rfl, ta.tr, by omega, ta.ok, ll, fun D2 H1 us2 s1 hD2 hD21 lt2 => ?_⟩
  refine ⟨.ref D, .ref D2, _, rfl, .lst (s1 _ _ hD) (lks_dqA (lt.up s1)), .lst hD21 (lks_dqA lt2), fl, _, rfl, iteF ?_⟩
  exact k _ _ ⟨d, o, D, us, _, _, _, _, _, _, rfl, ⟨c1, hc1, S.up s1⟩, hc, ta.up s1, se.up s1, s1 _ _ hD, lt.up s1, n1, n2, n3⟩
theorem st9  (Lv : LV P w K mg base C mt fa fd) (hg : A.guards = some []) (SM : (base.get? sysModules).isSome = true) (hr : Room 24 (A.deeper (envOfC "law" (defScope sLaw) s.heap.objs.size f cdv))) : Step (XL P w K mg base f cdv A outer s H E) (bd 9) (J7 w C v0 st l c) (J6 w C v0 st l c) := by
  obtain ⟨T, mRepr, aD, GD, aPo, GPo, aLTree, GLTree, aLList, GLList, aLLof, GLLof, aLTurn, GLTurn, aLUns, GLUns, aSa, GSa, S0, IS, SO, bTIni, GTIni, bTTree, GTTree, mTLooks, bTLooks, GTLooks, mTEq, bTEqU, GTEqU, tne, tso, kT, nC⟩ := id Lv
  have hu := hr.units
  have hu0 := Nat.lt_of_le_of_lt (Nat.le_add_right _ 64) hr.units
  have hu1 := Nat.lt_of_le_of_lt (Nat.add_le_add_left (show 1 ≤ 64 by decide) _) hr.units
  refine ⟨_, ps_expr (pe_bm PySem.F.plainAttrs_list PySem.F.slot_list_append PySem.F.type_list_append mt_append (pv 8) (pa_cons pe_int pa_nil)), fun D σ H' hA k => ?_⟩
  obtain ⟨d, o, D, us, x2, x5, x6, x9, x10, x11, rfl, ⟨c1, hc1, S⟩, hc, ta, se, hD, lt, n1, n2, n3⟩ := hA
  have l1 : us.length < sizeLine := by
    have h1 := nub_len (looksM d.t)
    have h2 := looks_len (n := 5) (show dep d.t < 5 by have := ta.dp; omega) ta.on
    have h3 : gL 5 = 341 := by decide
    exact Nat.lt_of_le_of_lt (show us.length ≤ 341 by rw [lt.1]; omega) (by decide)
  refine ⟨_, rfl, .inl ⟨rfl, _, SqL.of hD⟩, D, us, _, rfl, rfl, hD, l1, ?_⟩
  exact k _ _ ⟨d, o, _, _, _, _, _, _, _, rfl, ⟨c1, hc1, S.put ⟨n1, n2⟩⟩, hc, ta.put hD n3, se.nl (nl_put hD) (put_alive hD)⟩
theorem st10  (Lv : LV P w K mg base C mt fa fd) (hg : A.guards = some []) (SM : (base.get? sysModules).isSome = true) (hr : Room 24 (A.deeper (envOfC "law" (defScope sLaw) s.heap.objs.size f cdv))) : Step (XL P w K mg base f cdv A outer s H E) (bd 10) (J6 w C v0 st l c) (J6 w C v0 st l c) := by
  obtain ⟨T, mRepr, aD, GD, aPo, GPo, aLTree, GLTree, aLList, GLList, aLLof, GLLof, aLTurn, GLTurn, aLUns, GLUns, aSa, GSa, S0, IS, SO, bTIni, GTIni, bTTree, GTTree, mTLooks, bTLooks, GTLooks, mTEq, bTEqU, GTEqU, tne, tso, kT, nC⟩ := id Lv
  have hu := hr.units
  have hu0 := Nat.lt_of_le_of_lt (Nat.le_add_right _ 64) hr.units
  have hu1 := Nat.lt_of_le_of_lt (Nat.add_le_add_left (show 1 ≤ 64 by decide) _) hr.units
  refine ⟨_, ps_if (pt_not (pt_val (pe_callG GSa hg (hr.mono (by decide)) rfl aSa.m aSa.k aSa.b pass0 (pa_cons (pe_meth0 (pv 7) S0.cl mTLooks GTLooks (hr.mono (by decide)) bTLooks .nil pass0) (pa_cons (pe_call GLLof (hr.mono (by decide)) rfl aLLof.m aLLof.k aLLof.b .nil pass0 (pa_cons (pv 4) pa_nil)) pa_nil))))) (pss_one (ps_ret pe_bl)) (pss_nil), fun D σ H' hA k => ?_⟩
  obtain ⟨d, o, x2, x5, x6, x8, x9, x10, x11, rfl, ⟨c1, hc1, S⟩, hc, ta, se⟩ := hA
  have e4 : bT 4 = 731200 := by decide
  have dp := ta.dp
  obtain ⟨dx, ua, va, ho, _⟩ := id se
  have ll : (looksM d.t).length ≤ 100000 := Nat.le_trans (looks_len (n := 5) (by omega) ta.on) (by decide)
  have ft : Fine (trD d.t) 20 1000000 := (tr_fine ta.pl.nm d.t 4 [] ta.on ta.ok dp).up (by decide) (by rw [e4]; decide)
  have fl : Fine (.list ((nubL (looksM d.t)).map lkD)) 20 1000000 := (lks_fine ta.dp ta.ok ta.on).up (by decide) (Nat.le_refl _)
  refine ⟨_, rfl, o, dx, _, rfl, ho, rfl, o, d.t, _, rfl, se, by omega, ll, fun D H1 us s1 hD hD1 lt => ?_⟩
  refine ⟨_, rfl, d.tv, d.t, [], rfl, ta.tr.up s1, by omega, ta.ok, ll, fun D2 H2 us2 s2 hD2 hD21 lt2 => ?_⟩
  have s12 := s1.trans s2
  refine ⟨.ref D, .ref D2, _, rfl, .lst (s2 _ _ hD1) (lks_dqA (lt.up s2)), .lst hD21 (lks_dqA lt2), fl, _, rfl, iteF ?_⟩
  exact k _ _ ⟨d, o, _, _, _, _, _, _, _, rfl, ⟨c1, hc1, S.up s12⟩, hc, ta.up s12, se.up s12⟩
end
end T5

set_option maxHeartbeats 3900000
namespace T5
open PySem PySem.Spec PyProof.Rows L2 TL
open C8 (pss_cut tCut pe_gc)
open STP CB XW LE LR RP FI
section
variable {P : Program} {w : World} {K : PySem.W.Frag} {mg : Str → Option Value} {base : Heap} {C : Addr} {mt fa : Str → Addr} {fd : Str → FuncData}
  {f : Addr} {cdv : Value} {A : Around} {outer : List Env} {s : Shared} {H : Hp} {E : XK} {v0 : V} {st l : Addr} {c : Nat}
theorem st6  (Lv : LV P w K mg base C mt fa fd) (hg : A.guards = some []) (SM : (base.get? sysModules).isSome = true) (hr : Room 24 (A.deeper (envOfC "law" (defScope sLaw) s.heap.objs.size f cdv))) : Step (XL P w K mg base f cdv A outer s H E) (bd 6) (J5 K w C v0 st l c) (J6 w C v0 st l c) := by
  obtain ⟨T, mRepr, aD, GD, aPo, GPo, aLTree, GLTree, aLList, GLList, aLLof, GLLof, aLTurn, GLTurn, aLUns, GLUns, aSa, GSa, S0, IS, SO, bTIni, GTIni, bTTree, GTTree, mTLooks, bTLooks, GTLooks, mTEq, bTEqU, GTEqU, tne, tso, kT, nC⟩ := id Lv
  have hu := hr.units
  have hu0 := Nat.lt_of_le_of_lt (Nat.le_add_right _ 64) hr.units
  have hu1 := Nat.lt_of_le_of_lt (Nat.add_le_add_left (show 1 ≤ 64 by decide) _) hr.units
  refine ⟨_, ps_if (pt_val (pe_callB call_isi (by rfl) T.isinstance (by decide +kernel) (pa_cons (pv 5) (pa_cons (pe_bltn (v := .ty "list") (by rfl) T.list (by decide +kernel) rfl) pa_nil)))) (pss_cons (ps_expr (pe_bm PySem.F.plainAttrs_list PySem.F.slot_list_append PySem.F.type_list_append mt_append (pv 5) (pa_cons pe_int pa_nil)))
          (pss_one (ps_if (PW.pt (pw_and (pt_cmpR op_eq (pe_callB call_len_seq (by rfl) T.len PySem.boot_len (pa_cons (pv 5) pa_nil)) pe_int (nomark _)) (pw_and1 (pt_val (pe_callB call_isi (by rfl) T.isinstance (by decide +kernel) (pa_cons (pe_ix ix_list (pv 5) pe_int (fun _ _ => rfl)) (pa_cons (pe_bltn (v := .ty "list") (by rfl) T.list (by decide +kernel) rfl) pa_nil))))))) (pss_one (ps_expr (pe_bm PySem.F.plainAttrs_list PySem.F.slot_list_append PySem.F.type_list_append mt_append (pe_ix ix_list (pv 5) pe_int (fun _ _ => rfl)) (pa_cons pe_int pa_nil)))) (pss_nil)))) (pss_nil), fun D σ H' hA k => ?_⟩
  obtain ⟨d, pv, e, o, x2, x8, x9, x10, x11, rfl, ⟨c1, hc1, S⟩, hc, ta, hp, de, fe, se⟩ := hA
  have put : ∀ (H1 : Hp) (F : Addr) (xs ys : List V), (Strm H1 st l c1 ∧ TA st l d H1 ∧ StE w C H1 o d.t) → H1 F = some (.lst xs) → (F ≠ st ∧ F ≠ l ∧ F ≠ d.p) → (Strm (upd H1 F (.lst ys)) st l c1 ∧ TA st l d (upd H1 F (.lst ys)) ∧ StE w C (upd H1 F (.lst ys)) o d.t) := fun H1 F xs ys g hF n => ⟨g.1.put ⟨n.1, n.2.1⟩, g.2.1.put hF n.2.2, g.2.2.nl (nl_put hF) (put_alive hF)⟩
  have on := ta.on
  generalize d.t = t0 at hp on
  cases hp with
  | @fin _ z r =>
    obtain ⟨p, rfl, h | ⟨n, h⟩⟩ := r
    · exact ⟨_, rfl, .ref p, _, _, .type "list", false, rfl, .ty "list", .base (.tup h), kit_ty (by decide +kernel), _, rfl, iteF (k _ _ ⟨d, o, _, _, _, _, _, _, _, rfl, ⟨c1, hc1, S⟩, hc, ta, se⟩)⟩
    · refine ⟨_, rfl, .ref p, _, _, .type "list", true, rfl, .ty "list", .base (.lst h), kit_ty (by decide +kernel), _, rfl, iteT ?_⟩
      refine ⟨_, rfl, .inl ⟨rfl, _, SqL.of h⟩, p, _, _, rfl, rfl, h, by show 2 < sizeLine; decide, ?_⟩
      obtain ⟨g1, g2, g3⟩ := put _ p _ ([V.str "end", V.str z] ++ [V.int 5]) ⟨S, ta, se⟩ h n
      exact ⟨_, rfl, p, _, rfl, .inl (SqL.of upd_same), rfl, _, rfl, iteF (iteF (k _ _ ⟨d, o, _, _, _, _, _, _, _, rfl, ⟨c1, hc1, g1⟩, hc, g2, g3⟩))⟩
  | @ask _ kv cv ov xs kk cs oo r rk rc cc to =>
    obtain ⟨p, rfl, h | ⟨n, h⟩⟩ := r
    · exact ⟨_, rfl, .ref p, _, _, .type "list", false, rfl, .ty "list", .base (.tup h), kit_ty (by decide +kernel), _, rfl, iteF (k _ _ ⟨d, o, _, _, _, _, _, _, _, rfl, ⟨c1, hc1, S⟩, hc, ta, se⟩)⟩
    · refine ⟨_, rfl, .ref p, _, _, .type "list", true, rfl, .ty "list", .base (.lst h), kit_ty (by decide +kernel), _, rfl, iteT ?_⟩
      refine ⟨_, rfl, .inl ⟨rfl, _, SqL.of h⟩, p, _, _, rfl, rfl, h, by show 4 < sizeLine; decide, ?_⟩
      have g := put _ p _ ([V.str "ask", kv, cv, ov] ++ [V.int 5]) ⟨S, ta, se⟩ h n
      refine ⟨_, rfl, p, _, rfl, .inl (SqL.of upd_same), rfl, _, rfl, iteT ?_⟩
      refine ⟨_, rfl, p, _, 2, cv, rfl, rfl, SqL.of upd_same, atI_nat (j := 2) rfl, ?_⟩
      obtain ⟨cp, rfl, h2 | ⟨n2, h2⟩⟩ := rc
      · have h3 := (nl_put (ys := [V.str "ask", kv, .ref cp, ov] ++ [V.int 5]) h).tup _ _ h2
        exact ⟨.ref cp, _, _, .type "list", false, rfl, .ty "list", .base (.tup h3), kit_ty (by decide +kernel), _, rfl, iteF (k _ _ ⟨d, o, _, _, _, _, _, _, _, rfl, ⟨c1, hc1, g.1⟩, hc, g.2.1, g.2.2⟩)⟩
      · have ne : cp ≠ p := fun z => by
          rw [z, h] at h2
          have e := HO.lst.inj (Option.some.inj h2)
          subst e
          cases cc with
          | cons r2 _ _ _ =>
            obtain ⟨q, e, _⟩ := r2
            cases e
        have h3 : upd H' p (.lst ([V.str "ask", kv, .ref cp, ov] ++ [V.int 5])) cp = some (.lst xs) := by rw [upd_ne ne]; exact h2
        have xl := csN_len cc
        have xs1 : xs.length < sizeLine := Nat.lt_of_le_of_lt (show xs.length ≤ 100 by have : cs.length ≤ 3 := on.2.1; omega) (by decide)
        refine ⟨.ref cp, _, _, .type "list", true, rfl, .ty "list", .base (.lst h3), kit_ty (by decide +kernel), _, rfl, iteT ?_⟩
        obtain ⟨g1, g2, g3⟩ := put _ cp _ (xs ++ [V.int 5]) g h3 n2
        exact ⟨_, rfl, p, _, 2, .ref cp, rfl, rfl, SqL.of upd_same, atI_nat (j := 2) rfl, .inl ⟨rfl, _, SqL.of h3⟩, cp, _, _, rfl, rfl, h3, xs1, k _ _ ⟨d, o, _, _, _, _, _, _, _, rfl, ⟨c1, hc1, g1⟩, hc, g2, g3⟩⟩
theorem st11  (Lv : LV P w K mg base C mt fa fd) (hg : A.guards = some []) (SM : (base.get? sysModules).isSome = true) (hr : Room 24 (A.deeper (envOfC "law" (defScope sLaw) s.heap.objs.size f cdv))) : Step (XL P w K mg base f cdv A outer s H E) (bd 11) (J6 w C v0 st l c) (J8 w C v0 st l c) := by
  obtain ⟨T, mRepr, aD, GD, aPo, GPo, aLTree, GLTree, aLList, GLList, aLLof, GLLof, aLTurn, GLTurn, aLUns, GLUns, aSa, GSa, S0, IS, SO, bTIni, GTIni, bTTree, GTTree, mTLooks, bTLooks, GTLooks, mTEq, bTEqU, GTEqU, tne, tso, kT, nC⟩ := id Lv
  have hu := hr.units
  have hu0 := Nat.lt_of_le_of_lt (Nat.le_add_right _ 64) hr.units
  have hu1 := Nat.lt_of_le_of_lt (Nat.add_le_add_left (show 1 ≤ 64 by decide) _) hr.units
  refine ⟨_, ps_if (PW.pt (pw_or (pt_not (pt_cmpR (RQ.op_eqX (K0 := K) rfl GTEqU (hr.mono (by decide)) hu0 bTEqU pass0 mTEq SO) (pv 7) (pe_make S0.mak GTIni (hr.mono (by decide)) rfl S0.mg bTIni .nil pass0 (pa_cons (pe_call GLTurn (hr.mono (by decide)) rfl aLTurn.m aLTurn.k aLTurn.b .nil pass0 (pa_cons (pv 1) (pa_cons (pv 4) pa_nil))) pa_nil)) (nomark _))) (pw_or1 (pt_cmpR (RQ.op_neXK (K0 := K) rfl GTEqU (hr.mono (by decide)) hu1 bTEqU pass0 mTEq tne tso) (pv 7) (pe_make S0.mak GTIni (hr.mono (by decide)) rfl S0.mg bTIni .nil pass0 (pa_cons (pv 4) pa_nil)) (nomark _))))) (pss_one (ps_ret pe_bl)) (pss_nil), fun D σ H' hA k => ?_⟩
  obtain ⟨d, o, x2, x5, x6, x8, x9, x10, x11, rfl, ⟨c1, hc1, S⟩, hc, ta, se⟩ := hA
  have dp := ta.dp
  have eT : dT 5 = 1023 := by decide
  obtain ⟨dx, ua, va, ho, _⟩ := id se
  refine ⟨_, rfl, _, rfl, _, rfl, st, l, c1, d.tv, d.t, [], d.zs, rfl, S, by omega, ta.tr, by omega, ta.ok, ta.on, fun v' t' H1 c2 ht' sm ok' dp' B1 S1 hc2 => fun o1 dx1 ho1 hdx1 hne1 => ?_⟩
  have sM := mkS ho1 hdx1 (u := .ins C dx1 [])
  have al : ∀ b, H' b ≠ none → H1 b ≠ none := but_alive S1 B1
  refine ⟨o1, dx1, v', t', rfl, upd_same, TrIn.up sM ht'.in, by omega, by decide, ok', fun H2 bo sn => ⟨rfl, ?_⟩⟩
  have s2 := sM1 ho1 sM bo
  have se1 := se.but S S1 B1
  have sn1 := sn.mono (M := fun b => H1 b = none) fun b hb => none_of sM hb
  obtain ⟨dx2, us2, vs2, ho2, _⟩ := id (StE.up se1 s2)
  obtain ⟨dx3, us3, vs3, ho3, _⟩ := id sn
  refine .inl ⟨o, dx2, _, .ref C, rfl, ho2, .base (.ins ho3 S0.cl IS.ha IS.hn IS.ht IS.hm), nC, .inl ⟨o, o1, d.t, t', _, _, rfl, StN.up se1 s2, sn1, fun b hb hz => hb hz, dp, fun H3 e3 => ⟨_, rfl, ?_⟩⟩⟩
  rw [sm]
  refine iteF ⟨_, rfl, _, rfl, fun o4 dx4 ho4 hdx4 hne4 => ?_⟩
  have s13 : Same H1 H3 := s2.trans e3
  have S3 := S1.up s13
  have ta3 := (ta.but S B1).up s13
  have sM4 := mkS ho4 hdx4 (u := .ins C dx4 [])
  have se3 := se1.up s13
  refine ⟨o4, dx4, d.tv, d.t, rfl, upd_same, TrIn.up sM4 ta3.tr.in, by omega, by decide, ta.ok, fun H5 bo5 sn5 => ⟨rfl, ?_⟩⟩
  have s5 := sM1 ho4 sM4 bo5
  have sn6 := sn5.mono (M := fun b => H3 b = none) fun b hb => none_of sM4 hb
  obtain ⟨dx6, us6, vs6, ho6, _⟩ := id (StE.up se3 s5)
  obtain ⟨dx7, us7, vs7, ho7, _⟩ := id sn5
  refine ⟨o, dx6, _, .ref C, rfl, ho6, .base (.ins ho7 S0.cl IS.ha IS.hn IS.ht IS.hm), nC, .inl ⟨o, o4, d.t, d.t, _, _, rfl, StN.up se3 s5, sn6, fun b hb hz => hb hz, dp, fun H7 e7 => ⟨_, rfl, _, rfl, ?_⟩⟩⟩
  rw [same_self (n := 5) (by omega) ta.ok]
  have s37 := s5.trans e7
  exact iteF (k _ _ ⟨d, o, _, _, _, _, _, _, _, rfl, ⟨c2, by omega, S3.up s37⟩, hc, ta3.up s37, se3.up s37⟩)
end
end T5

set_option maxHeartbeats 3900000
namespace T5
open PySem PySem.Spec PyProof.Rows L2 TL
open C8 (pss_cut tCut pe_gc)
open STP CB XW LE LR RP FI
section
variable {P : Program} {w : World} {K : PySem.W.Frag} {mg : Str → Option Value} {base : Heap} {C : Addr} {mt fa : Str → Addr} {fd : Str → FuncData}
  {f : Addr} {cdv : Value} {A : Around} {outer : List Env} {s : Shared} {H : Hp} {E : XK} {v0 : V} {st l : Addr} {c : Nat}
theorem st12  (Lv : LV P w K mg base C mt fa fd) (hg : A.guards = some []) (SM : (base.get? sysModules).isSome = true) (hr : Room 24 (A.deeper (envOfC "law" (defScope sLaw) s.heap.objs.size f cdv))) : Step (XL P w K mg base f cdv A outer s H E) (bd 12) (J8 w C v0 st l c) (J9 w C 6 v0 st l c) := by
  obtain ⟨T, mRepr, aD, GD, aPo, GPo, aLTree, GLTree, aLList, GLList, aLLof, GLLof, aLTurn, GLTurn, aLUns, GLUns, aSa, GSa, S0, IS, SO, bTIni, GTIni, bTTree, GTTree, mTLooks, bTLooks, GTLooks, mTEq, bTEqU, GTEqU, tne, tso, kT, nC⟩ := id Lv
  have hu := hr.units
  have hu0 := Nat.lt_of_le_of_lt (Nat.le_add_right _ 64) hr.units
  have hu1 := Nat.lt_of_le_of_lt (Nat.add_le_add_left (show 1 ≤ 64 by decide) _) hr.units
  refine ⟨_, ps_set (i := 9) scLaw.nd rfl (Or.inl rfl) (pe_op op_cat (pe_lc (own := [("_law_one", 10)]) (g := gName 10) (tt := tYes) rfl scLaw.nd (pi_list (pe_call GLUns (hr.mono (by decide)) rfl aLUns.m aLUns.k aLUns.b .nil pass0 (pa_cons (pv 1) (pa_cons (pv 3) (pa_cons (pv 4) pa_nil))))) (blkOk_by (own := [("_law_one", 10)]) (N := ["_law_script", "_law_stream", "_law_turn", "_law_pool_here", "_law_tree_here", "_law_passed", "_law_kept", "_law_step", "_law_looks_here", "_law_others", "_law_one", "_law_other"]) (sc := defScope sLaw) (by decide +kernel)) (fun _ _ _ _ _ => (pg_name (i := 10) scLaw.nd rfl (Or.inl rfl))) (fun _ _ _ _ _ => pts_nil) (fun _ _ _ _ _ => (by exact (pe_make S0.mak GTIni (hr.mono (by decide)) rfl S0.mg bTIni .nil pass0 (pa_cons (pv 10) pa_nil))))) (pe_lst (pa_cons (pe_make S0.mak GTIni (hr.mono (by decide)) rfl S0.mg bTIni .nil pass0 (pa_cons (pe_tup (pa_cons pe_str (pa_cons pe_str pa_nil))) pa_nil)) pa_nil))), fun D σ H' hA k => ?_⟩
  obtain ⟨d, o, x2, x5, x6, x8, x9, x10, x11, rfl, ⟨c1, hc1, S⟩, hc, ta, se⟩ := hA
  have dp := ta.dp
  have z3 := ta.pl.z3
  refine ⟨_, rfl, _, rfl, _, rfl, st, l, d.p, c1, d.tv, d.t, d.zs, rfl, S, by omega, ta.pl.L, by omega, ta.pl.nm, ta.tr, dp, ta.ok, ta.on, fun D0 H1 us ts c2 B1 S1 hc2 hD0 hD1 tr1 up1 l5 => ?_⟩
  refine ⟨D0, rfl, ⟨_, SqL.of hD1⟩, fun M hM => ?_⟩
  have al := but_alive S1 B1
  have l1 : us.length ≤ 5 := tr1.1 ▸ l5
  have nn : ∀ b, H1 b = none → ¬ (H' b ≠ none) := fun b hb z => al b z hb
  refine LR.lcRD (walk_list (K := K) (a := D0) (xs := us)) (fun i y Hx => ∃ o2 t2, ts[i]? = some t2 ∧ y = .ref o2 ∧ StN w C (fun b => ¬ (H' b ≠ none)) (ItX.dropH Hx M) o2 t2) (fun i y H3 H4 b ⟨o2, t2, a1, a2, a3⟩ => ⟨o2, t2, a1, a2, StN.up a3 fun c u hc => dropD b hc⟩) (by omega) hM (fun H3 s => SqL.of (s _ _ hD1)) ?_ ?_
  · rintro i y H3 H4 hi s3 ⟨acc, hacc⟩ ⟨rfl, hx⟩ Q1 q1
    have hj : i < ts.length := by rw [← tr1.1]; exact hi
    have hti : ts[i]? = some ts[i] := List.getElem?_eq_getElem hj
    generalize ts[i] = t2 at hti
    have tri := tr1.2 i y t2 hx hti
    have up := up1 t2 (List.mem_of_getElem? hti)
    have upd4 := up.dp
    refine ⟨_, rfl, fun o1 dx1 ho1 hdx1 hne1 => ?_⟩
    have sM := mkS ho1 hdx1 (u := .ins C dx1 [])
    refine ⟨o1, dx1, y, t2, rfl, upd_same, TrIn.up (s3.trans sM) tri.in, by omega, by decide, up.ok, fun H5 bo sn => ⟨rfl, ?_⟩⟩
    have s5 := sM1 ho1 sM bo
    exact q1 _ _ s5 ⟨o1, t2, hti, rfl, (sn.mono (M := fun b => ¬ (H' b ≠ none)) fun b hb => nn b (none_of s3 (none_of sM hb))).drop (s5 _ _ hacc)⟩
  · intro ys H3 yl s3 hM3 hys
    refine ⟨by show 2 ≤ sizeLine; decide, fun q hq => fun o1 dx1 ho1 hdx1 hne1 => ?_⟩
    have sq := same_mk (o := .tup [.str "end", .str "more"]) hq
    have hq1 := upd_same (H := H3) (a := q) (o := .tup [.str "end", .str "more"])
    generalize upd H3 q (.tup [.str "end", .str "more"]) = H4 at sq hq1 ho1 hdx1 ⊢
    have sM := mkS ho1 hdx1 (u := .ins C dx1 [])
    refine ⟨o1, dx1, .ref q, .fin "more", rfl, upd_same, TrIn.up sM (TrAt.in (.fin hq1)), by show 0 < 5; decide, by decide, trivial, fun H5 bo sn => ⟨rfl, ?_⟩⟩
    have s5 := sM1 ho1 sM bo
    have sn1 := sn.mono (M := fun b => ¬ (H' b ≠ none)) fun b hb => nn b (none_of s3 (none_of sq (none_of sM hb)))
    refine ⟨by show 1 ≤ sizeLine; decide, fun L2 hL2 => ?_⟩
    have s6 := same_mk (o := .lst [.ref o1]) hL2
    have h6 := upd_same (H := H5) (a := L2) (o := .lst [.ref o1])
    generalize upd H5 L2 (.lst [.ref o1]) = H6 at s6 h6 ⊢
    have s36 := sq.trans (s5.trans s6)
    refine ⟨M, L2, ys, [.ref o1], rfl, rfl, s36 _ _ hM3, h6, Nat.le_trans (show ys.length + 1 ≤ 1000 by omega) (by decide), fun F hF => ?_⟩
    have s7 := same_mk (o := .lst (ys ++ [.ref o1])) hF
    have s17 : Same H1 _ := s3.trans (s36.trans s7)
    have s37 : Same H3 _ := s36.trans s7
    have nF := S1.ne_new (none_of (s3.trans s36) hF)
    have sm := same_more ta.on
    exact k _ _ ⟨d, o, F, (ys ++ [.ref o1]), (fun b => H' b ≠ none), _, _, _, _, _, _, rfl, ⟨c2, by omega, S1.up s17⟩, hc, (ta.but S B1).up s17, StN.up (StN.but se S B1) s17, upd_same, nF.1, nF.2, (fun z => by rw [z] at hF; rw [((ta.but S B1).up (s3.trans s36)).pl.L.h] at hF; cases hF), ⟨by rw [List.length_append, List.length_singleton]; omega, fun v hv => by
      rcases List.mem_append.mp hv with hv | hv
      · obtain ⟨i, hi⟩ := List.mem_iff_getElem?.mp hv
        obtain ⟨o2, t2, a1, rfl, a3⟩ := hys i v hi
        have up := up1 t2 (List.mem_of_getElem? a1)
        exact .inl ⟨o2, t2, rfl, StN.up (StN.up a3 drop_same) s37, up.dp, up.df, up.db⟩
      · rw [List.mem_singleton.mp hv]
        exact .inl ⟨o1, .fin "more", rfl, StN.up sn1 (s6.trans s7), Nat.zero_le _, sm.1, sm.2⟩⟩⟩
theorem st13  (Lv : LV P w K mg base C mt fa fd) (hg : A.guards = some []) (SM : (base.get? sysModules).isSome = true) (hr : Room 24 (A.deeper (envOfC "law" (defScope sLaw) s.heap.objs.size f cdv))) : Step (XL P w K mg base f cdv A outer s H E) (bd 13) (J9 w C 6 v0 st l c) (J9 w C 10 v0 st l c) := by
  obtain ⟨T, mRepr, aD, GD, aPo, GPo, aLTree, GLTree, aLList, GLList, aLLof, GLLof, aLTurn, GLTurn, aLUns, GLUns, aSa, GSa, S0, IS, SO, bTIni, GTIni, bTTree, GTTree, mTLooks, bTLooks, GTLooks, mTEq, bTEqU, GTEqU, tne, tso, kT, nC⟩ := id Lv
  have hu := hr.units
  have hu0 := Nat.lt_of_le_of_lt (Nat.le_add_right _ 64) hr.units
  have hu1 := Nat.lt_of_le_of_lt (Nat.add_le_add_left (show 1 ≤ 64 by decide) _) hr.units
  refine ⟨_, ps_expr (pe_bm PySem.F.plainAttrs_list PySem.F.slot_list_extend PySem.F.type_list_extend mt_extend (pv 9) (pa_cons (pe_lst (pa_cons (pv 4) (pa_cons pe_non (pa_cons pe_int (pa_cons pe_str pa_nil))))) pa_nil)), fun D σ H' hA k => ?_⟩
  obtain ⟨d, o, F, vs, M, x2, x5, x6, x8, x10, x11, rfl, ⟨c1, hc1, S⟩, hc, ta, se, hF, n1, n2, np, ol⟩ := hA
  have l6 := ol.1
  refine ⟨_, rfl, .inl ⟨rfl, _, SqL.of hF⟩, _, rfl, by show 4 ≤ sizeLine; decide, fun b hb => ?_⟩
  have s1 := same_mk (o := .lst [d.tv, .non, .int 5, .str "step"]) hb
  have h1 := upd_same (H := H') (a := b) (o := .lst [d.tv, .non, .int 5, .str "step"])
  generalize upd H' b (.lst [d.tv, .non, .int 5, .str "step"]) = H1 at s1 h1 ⊢
  have hF1 := s1 _ _ hF
  have nl := nl_put (ys := vs ++ [d.tv, .non, .int 5, .str "step"]) hF1
  refine ⟨F, b, vs, _, rfl, rfl, hF1, h1, Nat.le_trans (show vs.length + 4 ≤ 1000 by omega) (by decide), ?_⟩
  exact k _ _ ⟨d, o, F, (vs ++ [d.tv, .non, .int 5, .str "step"]), M, _, _, _, _, _, _, rfl, ⟨c1, hc1, (S.up s1).put ⟨n1, n2⟩⟩, hc, (ta.up s1).put hF1 np, StN.nl (StN.up se s1) nl, upd_same, n1, n2, np, ⟨by rw [List.length_append]; show vs.length + 4 ≤ 10; omega, fun v hv => by
      rcases List.mem_append.mp hv with hv | hv
      · exact ((ol.2 v hv).up s1).nl nl
      · obtain ⟨p, xs, e, hp⟩ := ta.tr.tp
        rcases List.mem_cons.mp hv with rfl | hv
        · exact .inr (.inr (.inr (.inr ⟨p, xs, e, nl.tup _ _ (s1 _ _ hp)⟩)))
        rcases List.mem_cons.mp hv with rfl | hv
        · exact .inr (.inl rfl)
        rcases List.mem_cons.mp hv with rfl | hv
        · exact .inr (.inr (.inl rfl))
        rw [List.mem_singleton.mp hv]
        exact .inr (.inr (.inr (.inl rfl)))⟩⟩
end
end T5

set_option maxHeartbeats 3900000
namespace T5
open PySem PySem.Spec PyProof.Rows L2 TL
open C8 (pss_cut tCut pe_gc)
open STP CB XW LE LR RP FI
section
variable {P : Program} {w : World} {K : PySem.W.Frag} {mg : Str → Option Value} {base : Heap} {C : Addr} {mt fa : Str → Addr} {fd : Str → FuncData}
  {f : Addr} {cdv : Value} {A : Around} {outer : List Env} {s : Shared} {H : Hp} {E : XK} {v0 : V} {st l : Addr} {c : Nat}
theorem st14  (Lv : LV P w K mg base C mt fa fd) (hg : A.guards = some []) (SM : (base.get? sysModules).isSome = true) (hr : Room 24 (A.deeper (envOfC "law" (defScope sLaw) s.heap.objs.size f cdv))) : Step (XL P w K mg base f cdv A outer s H E) (bd 14) (J9 w C 10 v0 st l c) (JE v0 st l c) := by
  obtain ⟨T, mRepr, aD, GD, aPo, GPo, aLTree, GLTree, aLList, GLList, aLLof, GLLof, aLTurn, GLTurn, aLUns, GLUns, aSa, GSa, S0, IS, SO, bTIni, GTIni, bTTree, GTTree, mTLooks, bTLooks, GTLooks, mTEq, bTEqU, GTEqU, tne, tso, kT, nC⟩ := id Lv
  have hu := hr.units
  have hu0 := Nat.lt_of_le_of_lt (Nat.le_add_right _ 64) hr.units
  have hu1 := Nat.lt_of_le_of_lt (Nat.add_le_add_left (show 1 ≤ 64 by decide) _) hr.units
  refine ⟨_, ps_if (pt_val (pe_callB (cr_any rfl) (by rfl) T.any boot_any (pa_cons (pe_lc (own := [("_law_other", 11)]) (g := gName 11) (tt := tYes) rfl scLaw.nd (pi_list (pv 9)) (blkOk_by (own := [("_law_other", 11)]) (N := ["_law_script", "_law_stream", "_law_turn", "_law_pool_here", "_law_tree_here", "_law_passed", "_law_kept", "_law_step", "_law_looks_here", "_law_others", "_law_one", "_law_other"]) (sc := defScope sLaw) (by decide +kernel)) (fun _ _ _ _ _ => (pg_name (i := 11) scLaw.nd rfl (Or.inl rfl))) (fun _ _ _ _ _ => pts_nil) (fun _ _ _ _ _ => (by exact (pe_or (pe_cmpR (RQ.op_eqX (K0 := K) rfl GTEqU (hr.mono (by decide)) hu0 bTEqU pass0 mTEq SO) (pv 7) (pv 11) (nomark _)) (pe_or (pe_cmpR (RQ.op_eqX (K0 := K) rfl GTEqU (hr.mono (by decide)) hu0 bTEqU pass0 mTEq SO) (pv 11) (pv 7) (nomark _)) (pe_one (pe_not (pe_cmpR (RQ.op_neXK (K0 := K) rfl GTEqU (hr.mono (by decide)) hu1 bTEqU pass0 mTEq tne tso) (pv 7) (pv 11) (nomark _))))))))) pa_nil))) (pss_one (ps_ret pe_bl)) (pss_nil), fun D σ H' hA k => ?_⟩
  obtain ⟨d, o, F, vs, M, x2, x5, x6, x8, x10, x11, rfl, ⟨c1, hc1, S⟩, hc, ta, se, hF, n1, n2, np, ol⟩ := hA
  have dp := ta.dp
  have l10 := ol.1
  have any0 : (vs.map fun _ => false).any id = false := List.any_eq_false.mpr fun x hx => by
    obtain ⟨_, _, rfl⟩ := List.mem_map.mp hx
    exact Bool.false_ne_true
  refine ⟨_, rfl, F, rfl, ⟨_, SqL.of hF⟩, fun D hD => ?_⟩
  refine LI3.lcJ (walk_list (K := K) (a := F) (xs := vs)) (fun Hx => Same H' Hx) (vs.map fun _ => V.bl false) (by rw [List.length_map]) (by omega) (same_mk hD) (fun Hx s => SqL.of (s _ _ hF)) (fun Hx xs zs s hx => same_ch s hD) ?_ ?_
  · rintro m x y H2 H3 hy s2 _ ⟨rfl, hx⟩
    refine ⟨rfl, fun Q1 q1 => ?_⟩
    rw [List.getElem?_map, hx] at hy
    cases hy
    have ov := (ol.2 x (List.mem_of_getElem? hx)).up s2
    have se2 := StN.up se s2
    obtain ⟨dx, ua, va, ho, _⟩ := id se2
    rcases ov.split (K := K) with ⟨o2, t2, rfl, so2, d2, df, db⟩ | ⟨T', hT, ty, ot⟩
    · obtain ⟨dx2, ub, vb, ho2, _⟩ := id so2
      refine ⟨_, rfl, _, rfl, .inl ⟨o, dx, _, .ref C, rfl, ho, .base (.ins ho2 S0.cl IS.ha IS.hn IS.ht IS.hm), nC, .inl ⟨o, o2, d.t, t2, _, _, rfl, se2, so2, fun b hb hz => hz hb, dp, fun H4 e4 => ⟨_, rfl, ?_⟩⟩⟩⟩
      rw [df]
      refine iteF ⟨_, rfl, _, rfl, .inl ⟨o2, dx2, _, .ref C, rfl, e4 _ _ ho2, .base (.ins (e4 _ _ ho) S0.cl IS.ha IS.hn IS.ht IS.hm), nC, .inl ⟨o2, o, t2, d.t, _, _, rfl, StN.up so2 e4, StN.up se2 e4, fun b hb hz => hb hz, d2, fun H5 e5 => ⟨_, rfl, ?_⟩⟩⟩⟩
      rw [db]
      have s45 := e4.trans e5
      refine iteF ⟨_, rfl, _, rfl, ⟨o, dx, _, .ref C, rfl, s45 _ _ ho, .base (.ins (s45 _ _ ho2) S0.cl IS.ha IS.hn IS.ht IS.hm), nC, .inl ⟨o, o2, d.t, t2, _, _, rfl, StN.up se2 s45, StN.up so2 s45, fun b hb hz => hz hb, dp, fun H6 e6 => ⟨_, rfl, _, rfl, ?_⟩⟩⟩⟩
      rw [df]
      exact q1 H6 (Same.trans s2 (s45.trans e6)) fun xs hx => (s45.trans e6) _ _ hx
    · have h6 : T' ∈ (["NoneType", "int", "bool", "str", "list", "tuple"] : List String) := by
        simp only [List.mem_cons, List.mem_nil_iff, or_false] at hT ⊢
        rcases hT with rfl | rfl | rfl | rfl <;> simp
      have k1 := (kT T' h6).1
      have k2 := (kT T' h6).2
      refine ⟨_, rfl, _, rfl, .inl ⟨o, dx, _, .type T', rfl, ho, ty, k2, .inr ⟨o, x, d.t, _, .type T', rfl, se2, ty, k1, ⟨false, rfl, iteF ?_⟩⟩⟩⟩
      refine ⟨_, rfl, _, rfl, .inr ⟨o, dx, _, rfl, ho, ot, .inr ⟨o, x, d.t, _, .type T', rfl, se2, ty, k1, ⟨false, rfl, iteF ?_⟩⟩⟩⟩
      exact ⟨_, rfl, _, rfl, ⟨o, dx, _, .type T', rfl, ho, ty, k2, .inr ⟨o, x, d.t, _, .type T', rfl, se2, ty, k1, ⟨_, rfl, _, rfl, q1 _ s2 fun _ h => h⟩⟩⟩⟩
  · intro H3 s3 hD3
    refine ⟨D, vs.map fun _ => false, rfl, SqL.of (by rw [List.map_map]; exact hD3), ?_⟩
    rw [any0]
    exact ⟨_, rfl, iteF (k _ _ ⟨_, _, _, _, _, _, _, _, _, _, rfl, ⟨c1, hc1, S.up s3⟩, hc⟩)⟩
end
end T5

set_option maxHeartbeats 3900000
namespace T5
open PySem PySem.Spec PyProof.Rows L2 TL
open C8 (pss_cut tCut pe_gc)
open STP CB XW LE LR RP FI
section
variable {P : Program} {w : World} {K : PySem.W.Frag} {mg : Str → Option Value} {base : Heap} {C : Addr} {mt fa : Str → Addr} {fd : Str → FuncData}
  {f : Addr} {cdv : Value} {A : Around} {outer : List Env} {s : Shared} {H : Hp} {E : XK} {v0 : V} {st l : Addr} {c : Nat}
theorem turn (Lv : LV P w K mg base C mt fa fd) (hg : A.guards = some []) (SM : (base.get? sysModules).isSome = true) (hr : Room 24 (A.deeper (envOfC "law" (defScope sLaw) s.heap.objs.size f cdv))) : Steps (XL P w K mg base f cdv A outer s H E) (forBody (nth (defBody sLaw) 1)) (J0 v0 st l c) (JE v0 st l c) :=
  steps_cons (st0 Lv hg SM hr) <| steps_cons (st1 Lv hg SM hr) <| steps_cons (st2 Lv hg SM hr) <| steps_cons (st3 Lv hg SM hr) <| steps_cons (st4 Lv hg SM hr) <| steps_cons (st5 Lv hg SM hr) <| steps_cons (st6 Lv hg SM hr) <| steps_cons (st7 Lv hg SM hr) <| steps_cons (st8 Lv hg SM hr) <| steps_cons (st9 Lv hg SM hr) <| steps_cons (st10 Lv hg SM hr) <| steps_cons (st11 Lv hg SM hr) <| steps_cons (st12 Lv hg SM hr) <| steps_cons (st13 Lv hg SM hr) <| steps_one (st14 Lv hg SM hr)
def spLaw (K : PySem.W.Frag) : Sp := fun vs H Q _ => ∃ (a : Addr) (ns : List Int), vs = [.ref a] ∧ ns.length ≤ 63 ∧ SqL K H a (ns.map V.int) ∧ ∀ H', Q (.bl true) H'
theorem ok_law {f : Addr} {fdl : FuncData} (F : Fun K "law" "law" sLaw f fdl) (VV : LV P w K mg base C mt fa fd) (SM : (base.get? sysModules).isSome = true) : FnG P w K mg base CX0 25 f fdl ["_law_script"] (spLaw K) := by
  refine okG F scLaw (fun vs H Q E h => ?_) (fun cdv A outer s H vs Q E hg hr h => ?_)
  · obtain ⟨a, ns, rfl, _⟩ := h
    rfl
  · have V0 := VV
    obtain ⟨T, mRepr, aD, GD, aPo, GPo, aLTree, GLTree, aLList, GLList, aLLof, GLLof, aLTurn, GLTurn, aLUns, GLUns, aSa, GSa, S0, IS, SO, bTIni, GTIni, bTTree, GTTree, mTLooks, bTLooks, GTLooks, mTEq, bTEqU, GTEqU, tne, tso, kT, nC⟩ := id VV
    have hu := hr.units
    have hu0 := Nat.lt_of_le_of_lt (Nat.le_add_right _ 64) hr.units
    have hu1 := Nat.lt_of_le_of_lt (Nat.add_le_add_left (show 1 ≤ 64 by decide) _) hr.units
    obtain ⟨a, ns, rfl, hl, hS, fin⟩ := h
    refine ⟨_, pss_cut (ps_set (i := 1) scLaw.nd rfl (Or.inl rfl) (pe_lst (pa_cons (pe_callTy call_list_of (by rfl) T.list (by decide +kernel) (pa_cons (pv 0) pa_nil)) (pa_cons pe_int (pa_cons pe_int (pa_cons pe_int pa_nil))))))
      (pss_cut (ps_for PassesOwn.never rfl (pi_range1 rfl T.range (pa_cons pe_int pa_nil)) (pg_name (i := 2) scLaw.nd rfl (Or.inl rfl)) (psW (ss := forBody (nth (defBody sLaw) 1))))
      (pss_one (ps_ret pe_bl))), ?_⟩
    refine ⟨fun σ H' => ∃ st l, σ = [some (.ref a), some (.ref st), none, none, none, none, none, none, none, none, none, none] ∧ Strm H' st l 0,
      ⟨_, rfl, a, _, rfl, .inl hS, fun l hl0 => ⟨by show 4 ≤ sizeLine; decide, fun st hst => ⟨st, l, rfl, ?_⟩⟩⟩, ?_⟩
    · have e : upd (upd H l (.lst (ns.map V.int))) st (.lst [.ref l, .int 0, .int 0, .int 0]) l = some (.lst (ns.map V.int)) := same_mk hst _ _ upd_same
      exact ⟨ns, 0, 0, ⟨upd_same, e⟩, hl, by decide, by decide, by decide⟩
    rintro _ H0 ⟨st, l, rfl, S0⟩
    refine ⟨fun _ _ => True, ?_, ?_⟩
    · refine ⟨8, rfl, by decide, by decide, for_range (lo := 0) (n := 8) (fun i σ H' => ∃ x2 x3 x4 x5 x6 x7 x8 x9 x10 x11 c, σ = [some (.ref a), some (.ref st), x2, x3, x4, x5, x6, x7, x8, x9, x10, x11] ∧ Strm H' st l c ∧ c ≤ 44700 * i)
        ⟨none, none, none, none, none, none, none, none, none, none, 0, rfl, S0, Nat.le_refl _⟩ ?_ (fun _ _ _ => trivial)⟩
      rintro i _ H1 hi ⟨x2, x3, x4, x5, x6, x7, x8, x9, x10, x11, c, rfl, S1, hc1⟩
      refine Steps.wish (turn V0 hg SM hr (v0 := .ref a) (st := st) (l := l) (c := c)) ⟨_, _, _, _, _, _, _, _, _, _, rfl, S1, by omega⟩ ?_
      rintro σ' H' ⟨y2, y3, y4, y5, y6, y7, y8, y9, y10, y11, rfl, ⟨c', hc', S'⟩, _⟩
      exact ⟨y2, y3, y4, y5, y6, y7, y8, y9, y10, y11, c', rfl, S', by omega⟩
    · rintro σ H1 _
      exact fin _
end
end T5

set_option maxHeartbeats 3900000
namespace T5
open PySem PySem.Spec PyProof.Rows L2 TL
open C8 (pss_cut tCut pe_gc)
open STP CB XW LE LR RP FI
section
variable {P : Program} {w : World} {K : PySem.W.Frag} {mg : Str → Option Value} {base : Heap} {C : Addr} {mt : Str → Addr}
theorem ok_pt5 {f fE fL fS fR : Addr} {fd fdE fdL fdS fdR : FuncData} (F : Fun K "plain_tree" "plain_tree" sPT f fd) (T : TB mg) (aPT : At K mg "plain_tree" f fd ["thing", "place", "above"]) (aIsE : At K mg "is_end" fE fdE ["thing"]) (GIsE : FnOk P w K mg base CX0 2 fE fdE ["thing"] spIE) (aLoA : At K mg "look_of_ask" fL fdL ["thing"]) (GLoA : FnOk P w K mg base CX0 6 fL fdL ["thing"] spLoA) (aAsSight : At K mg "as_sight" fS fdS ["thing"]) (GAsSight : FnOk P w K mg base CX0 6 fS fdS ["thing"] spAsSight) (aRow : At K mg "is_row" fR fdR ["thing", "size"]) (GRow : FnOk P w K mg base CX0 1 fR fdR ["thing", "size"] spRow) : FnOk P w K mg base CX0 12 f fd ["thing", "place", "above"] (spPT 5) := ok_pt F T aPT aIsE GIsE aLoA GLoA aAsSight GAsSight aRow GRow 5
theorem ok_un5 {f : Addr} {fd : FuncData} (F : Fun K "unordered" "unordered" sUn f fd) (T : TB mg) (aUn : At K mg "unordered" f fd ["tree"]) : FnOk P w K mg base CX0 5 f fd ["tree"] (spUn w 5) := ok_un F T aUn 5
theorem ok_ltree5 {f fD fL fS : Addr} {fd fdD fdL fdS : FuncData} (F : Fun K "_law_tree" "_law_tree" sLTree f fd) (T : TB mg) (aD : aD' K mg fD fdD) (GD : FnOk P w K mg base CX0 1 fD fdD ["_law_stream", "_law_many"] spDraw) (aLooks : At K mg "_law_looks" fL fdL ["_law_stream", "_law_pool_here", "_law_many"]) (GLooks : FnOk P w K mg base CX0 5 fL fdL ["_law_stream", "_law_pool_here", "_law_many"] spLooks) (aSo : At K mg "_law_some_answer" fS fdS ["_law_stream", "_law_pool_here", "_law_look_here"]) (GSo : FnOk P w K mg base CX0 3 fS fdS ["_law_stream", "_law_pool_here", "_law_look_here"] spSome) (aLTree : At K mg "_law_tree" f fd ["_law_stream", "_law_pool_here", "_law_looks_here", "_law_most"]) : FnOk P w K mg base CX0 11 f fd ["_law_stream", "_law_pool_here", "_law_looks_here", "_law_most"] (spLTree 5) := ok_ltree F T aD GD aLooks GLooks aSo GSo aLTree 5
theorem ok_tini5 {f fPT fUn : Addr} {fd fdPT fdUn : FuncData} (F : Fun K "__init__" "Step.__init__" sTIni f fd) (T : TB mg) (S0 : TCl K mg C mt) (aPT : At K mg "plain_tree" fPT fdPT ["thing", "place", "above"]) (GPT : FnOk P w K mg base CX0 12 fPT fdPT ["thing", "place", "above"] (spPT 5)) (aUn : At K mg "unordered" fUn fdUn ["tree"]) (GUn : FnOk P w K mg base CX0 5 fUn fdUn ["tree"] (spUn w 5)) : FnOk P w K mg base CX0 13 f fd ["self", "tree"] (spTIniN w C 5) := ok_tiniN (n := 5) F T S0 aPT GPT aUn GUn
theorem ok_lin5 {f fP : Addr} {fd fdP : FuncData} (F : Fun K "looks_in" "looks_in" sLin f fd) (T : TB mg) (aLin : At K mg "looks_in" f fd ["tree"]) (aPof : At K mg "parts_of" fP fdP ["ask"]) (GPof : FnOk P w K mg base CX0 1 fP fdP ["ask"] spPof) : FnOk P w K mg base CX0 7 f fd ["tree"] (spLin 5) := ok_lin F T aLin aPof GPof 5
theorem ok_llof5 {f : Addr} {fd : FuncData} (F : Fun K "_law_looks_of" "_law_looks_of" sLLof f fd) (T : TB mg) (aLLof : At K mg "_law_looks_of" f fd ["_law_tree_here"]) : FnOk P w K mg base CX0 5 f fd ["_law_tree_here"] (spLLof 5) := ok_llof F T aLLof 5
theorem ok_turn5 {f fM : Addr} {fd fdM : FuncData} (F : Fun K "_law_turned" "_law_turned" sLTurn f fd) (T : TB mg) (aLTurn : At K mg "_law_turned" f fd ["_law_stream", "_law_tree_here"]) (aMixed : At K mg "_law_mixed" fM fdM ["_law_stream", "_law_things"]) (GMixed : FnOk P w K mg base CX0 2 fM fdM ["_law_stream", "_law_things"] spMixedT) : FnOk P w K mg base CX0 8 f fd ["_law_stream", "_law_tree_here"] (spTurn 5) := ok_turn F T aLTurn aMixed GMixed 5
theorem ok_unl5 {f : Addr} {fd : FuncData} (F : Fun K "_law_unlike" "_law_unlike" sLUn f fd) (T : TB mg) (aLUn : At K mg "_law_unlike" f fd ["_law_tree_here"]) : FnOk P w K mg base CX0 5 f fd ["_law_tree_here"] (spUnl 5) := ok_unl F T aLUn 5
theorem ok_li5 {f fD : Addr} {fd fdD : FuncData} (F : Fun K "_law_list" "_law_list" sLList f fd) (T : TB mg) (aLList : At K mg "_law_list" f fd ["_law_stream", "_law_tree_here"]) (aD : aD' K mg fD fdD) (GD : FnOk P w K mg base CX0 1 fD fdD ["_law_stream", "_law_many"] spDraw) : FnOk P w K mg base CX0 6 f fd ["_law_stream", "_law_tree_here"] (spLi 5) := ok_li F T aLList aD GD 5
theorem ok_teqU2 {f : Addr} {fd : FuncData} (F : Fun K "__eq__" "Step.__eq__" sTEq f fd) (T : TB mg) (S0 : TCl K mg C mt) (IS : ClIs K C) : FnOk P w K mg base CX0 20 f fd ["self", "other"] (spTEqU K w C) := ok_teqU (ok_teqB F T S0 IS) (ok_teqO F T S0)
end
end T5

set_option maxHeartbeats 0
namespace T5
open PySem PySem.Spec PyProof.Rows L2 EG RP
theorem fun_of {K : PySem.W.Frag} {x q : Str} {st : Stmt} {f : Addr} {fd : FuncData} (F : FunD K x q (defArgs st) (defBody st) (defScope st) [] [] f fd) : Fun K x q st f fd := by
  obtain ⟨oc, od, dV, kV, doc, pm, an, cdv, ct, osl, rfl, lk, hcd, hD, hK⟩ := F.ex
  rcases hD with ⟨_, rfl⟩ | ⟨e, _⟩
  · exact ⟨⟨oc, od, kV, doc, pm, an, cdv, ct, osl, rfl, lk, hcd⟩, F.kp⟩
  · exact absurd rfl e
section
variable {P : Program} {w : World} {K : PySem.W.Frag} {h : Heap} {mg : Str → Option Value} {f : Addr}
theorem whole (X : K.In h) (G : h.Ns mainGlobals mg) (hfa : mg ("law" : Str) = some (.ref f)) (c : He.SaysX faL fnL [] tfL exB w h K) :
    ∃ fd : FuncData, (∀ (s : Shared) (u : Value), BindsTo s fd ⟨[u], []⟩ [("_law_script", u)]) ∧ ∀ base : Heap, K.In base → base.Ns mainGlobals mg → (base.get? sysModules).isSome = true → FnG P w K mg base CX0 25 f fd ["_law_script"] (spLaw K) := by
  have D := c.t.d
  have ex := c.more
  have gl : ∀ x ∈ gloL, mg x = some (.ref (He.ga K x)) := fun x hx => He.glo_ok X G (D.facts (f := .glo x) (List.mem_append_left _ (List.mem_map.mpr ⟨x, hx, rfl⟩)))
  have fr : ∀ x ∈ freeL, mg x = none := fun x hx => He.free_ok X G (D.facts (f := .free x) (List.mem_append_right _ (List.mem_append_left _ (List.mem_map.mpr ⟨x, hx, rfl⟩))))
  have co : ∀ x ∈ conL, x.ok K = true := fun x hx => D.facts (List.mem_append_right _ (List.mem_append_right _ hx))
  have e := hfa.symm.trans (gl "law" (by decide +kernel))
  cases e
  obtain ⟨d0, U0⟩ := D.def_ 0 (d := dG "is_name" 9) rfl
  have F0 : Fun K "is_name" "is_name" (top 9) (He.ga K "is_name") d0 := fun_of U0
  have b0 : L2.Binds K d0 ["thing"] [] := F0.binds fun _ _ _ _ _ _ us hl => match us, hl with | [_], _ => rfl
  have a0 : At K mg "is_name" (He.ga K "is_name") d0 ["thing"] := ⟨gl _ (by decide +kernel), F0.kp, b0⟩
  obtain ⟨d1, U1⟩ := D.def_ 1 (d := dG "is_path" 10) rfl
  have F1 : Fun K "is_path" "is_path" (top 10) (He.ga K "is_path") d1 := fun_of U1
  have b1 : L2.Binds K d1 ["thing"] [] := F1.binds fun _ _ _ _ _ _ us hl => match us, hl with | [_], _ => rfl
  have a1 : At K mg "is_path" (He.ga K "is_path") d1 ["thing"] := ⟨gl _ (by decide +kernel), F1.kp, b1⟩
  obtain ⟨d2, U2⟩ := D.def_ 2 (d := dG "is_place" 11) rfl
  have F2 : Fun K "is_place" "is_place" (top 11) (He.ga K "is_place") d2 := fun_of U2
  have b2 : L2.Binds K d2 ["thing"] [] := F2.binds fun _ _ _ _ _ _ us hl => match us, hl with | [_], _ => rfl
  have a2 : At K mg "is_place" (He.ga K "is_place") d2 ["thing"] := ⟨gl _ (by decide +kernel), F2.kp, b2⟩
  obtain ⟨d3, U3⟩ := D.def_ 3 (d := dG "is_row" 13) rfl
  have F3 : Fun K "is_row" "is_row" (top 13) (He.ga K "is_row") d3 := fun_of U3
  have b3 : L2.Binds K d3 ["thing", "size"] [] := F3.binds fun _ _ _ _ _ _ us hl => match us, hl with | [_, _], _ => rfl
  have a3 : At K mg "is_row" (He.ga K "is_row") d3 ["thing", "size"] := ⟨gl _ (by decide +kernel), F3.kp, b3⟩
  obtain ⟨d4, U4⟩ := D.def_ 4 (d := dG "as_look" 14) rfl
  have F4 : Fun K "as_look" "as_look" (top 14) (He.ga K "as_look") d4 := fun_of U4
  have b4 : L2.Binds K d4 ["thing"] [] := F4.binds fun _ _ _ _ _ _ us hl => match us, hl with | [_], _ => rfl
  have a4 : At K mg "as_look" (He.ga K "as_look") d4 ["thing"] := ⟨gl _ (by decide +kernel), F4.kp, b4⟩
  obtain ⟨d5, U5⟩ := D.def_ 5 (d := dG "can_look" 15) rfl
  have F5 : Fun K "can_look" "can_look" (top 15) (He.ga K "can_look") d5 := fun_of U5
  have b5 : L2.Binds K d5 ["word", "where"] [] := F5.binds fun _ _ _ _ _ _ us hl => match us, hl with | [_, _], _ => rfl
  have a5 : At K mg "can_look" (He.ga K "can_look") d5 ["word", "where"] := ⟨gl _ (by decide +kernel), F5.kp, b5⟩
  obtain ⟨d6, U6⟩ := D.def_ 6 (d := dG "can_show" 16) rfl
  have F6 : Fun K "can_show" "can_show" (top 16) (He.ga K "can_show") d6 := fun_of U6
  have b6 : L2.Binds K d6 ["look", "answer"] [] := F6.binds fun _ _ _ _ _ _ us hl => match us, hl with | [_, _], _ => rfl
  have a6 : At K mg "can_show" (He.ga K "can_show") d6 ["look", "answer"] := ⟨gl _ (by decide +kernel), F6.kp, b6⟩
  obtain ⟨d7, U7⟩ := D.def_ 7 (d := dG "is_listing" 17) rfl
  have F7 : Fun K "is_listing" "is_listing" (top 17) (He.ga K "is_listing") d7 := fun_of U7
  have b7 : L2.Binds K d7 ["thing"] [] := F7.binds fun _ _ _ _ _ _ us hl => match us, hl with | [_], _ => rfl
  have a7 : At K mg "is_listing" (He.ga K "is_listing") d7 ["thing"] := ⟨gl _ (by decide +kernel), F7.kp, b7⟩
  obtain ⟨d8, U8⟩ := D.def_ 8 (d := dG "is_entry" 18) rfl
  have F8 : Fun K "is_entry" "is_entry" (top 18) (He.ga K "is_entry") d8 := fun_of U8
  have b8 : L2.Binds K d8 ["thing"] [] := F8.binds fun _ _ _ _ _ _ us hl => match us, hl with | [_], _ => rfl
  have a8 : At K mg "is_entry" (He.ga K "is_entry") d8 ["thing"] := ⟨gl _ (by decide +kernel), F8.kp, b8⟩
  obtain ⟨d9, U9⟩ := D.def_ 9 (d := dG "as_sight" 19) rfl
  have F9 : Fun K "as_sight" "as_sight" (top 19) (He.ga K "as_sight") d9 := fun_of U9
  have b9 : L2.Binds K d9 ["thing"] [] := F9.binds fun _ _ _ _ _ _ us hl => match us, hl with | [_], _ => rfl
  have a9 : At K mg "as_sight" (He.ga K "as_sight") d9 ["thing"] := ⟨gl _ (by decide +kernel), F9.kp, b9⟩
  obtain ⟨d10, U10⟩ := D.def_ 10 (d := dG "plain_tree" 21) rfl
  have F10 : Fun K "plain_tree" "plain_tree" (top 21) (He.ga K "plain_tree") d10 := fun_of U10
  have b10 : L2.Binds K d10 ["thing", "place", "above"] [] := F10.binds fun _ _ _ _ _ _ us hl => match us, hl with | [_, _, _], _ => rfl
  have a10 : At K mg "plain_tree" (He.ga K "plain_tree") d10 ["thing", "place", "above"] := ⟨gl _ (by decide +kernel), F10.kp, b10⟩
  obtain ⟨d11, U11⟩ := D.def_ 11 (d := dG "is_end" 22) rfl
  have F11 : Fun K "is_end" "is_end" (top 22) (He.ga K "is_end") d11 := fun_of U11
  have b11 : L2.Binds K d11 ["thing"] [] := F11.binds fun _ _ _ _ _ _ us hl => match us, hl with | [_], _ => rfl
  have a11 : At K mg "is_end" (He.ga K "is_end") d11 ["thing"] := ⟨gl _ (by decide +kernel), F11.kp, b11⟩
  obtain ⟨d12, U12⟩ := D.def_ 12 (d := dG "look_of_ask" 23) rfl
  have F12 : Fun K "look_of_ask" "look_of_ask" (top 23) (He.ga K "look_of_ask") d12 := fun_of U12
  have b12 : L2.Binds K d12 ["thing"] [] := F12.binds fun _ _ _ _ _ _ us hl => match us, hl with | [_], _ => rfl
  have a12 : At K mg "look_of_ask" (He.ga K "look_of_ask") d12 ["thing"] := ⟨gl _ (by decide +kernel), F12.kp, b12⟩
  obtain ⟨d13, U13⟩ := D.def_ 13 (d := dG "unordered" 24) rfl
  have F13 : Fun K "unordered" "unordered" (top 24) (He.ga K "unordered") d13 := fun_of U13
  have b13 : L2.Binds K d13 ["tree"] [] := F13.binds fun _ _ _ _ _ _ us hl => match us, hl with | [_], _ => rfl
  have a13 : At K mg "unordered" (He.ga K "unordered") d13 ["tree"] := ⟨gl _ (by decide +kernel), F13.kp, b13⟩
  obtain ⟨d14, U14⟩ := D.def_ 14 (d := dG "looks_in" 25) rfl
  have F14 : Fun K "looks_in" "looks_in" (top 25) (He.ga K "looks_in") d14 := fun_of U14
  have b14 : L2.Binds K d14 ["tree"] [] := F14.binds fun _ _ _ _ _ _ us hl => match us, hl with | [_], _ => rfl
  have a14 : At K mg "looks_in" (He.ga K "looks_in") d14 ["tree"] := ⟨gl _ (by decide +kernel), F14.kp, b14⟩
  obtain ⟨d15, U15⟩ := D.def_ 15 (d := dG "parts_of" 26) rfl
  have F15 : Fun K "parts_of" "parts_of" (top 26) (He.ga K "parts_of") d15 := fun_of U15
  have b15 : L2.Binds K d15 ["ask"] [] := F15.binds fun _ _ _ _ _ _ us hl => match us, hl with | [_], _ => rfl
  have a15 : At K mg "parts_of" (He.ga K "parts_of") d15 ["ask"] := ⟨gl _ (by decide +kernel), F15.kp, b15⟩
  obtain ⟨d16, U16⟩ := D.def_ 16 (d := dG "_law_draw" 30) rfl
  have F16 : Fun K "_law_draw" "_law_draw" (top 30) (He.ga K "_law_draw") d16 := fun_of U16
  have b16 : L2.Binds K d16 ["_law_stream", "_law_many"] [] := F16.binds fun _ _ _ _ _ _ us hl => match us, hl with | [_, _], _ => rfl
  have a16 : At K mg "_law_draw" (He.ga K "_law_draw") d16 ["_law_stream", "_law_many"] := ⟨gl _ (by decide +kernel), F16.kp, b16⟩
  obtain ⟨d17, U17⟩ := D.def_ 17 (d := dG "_law_pick" 31) rfl
  have F17 : Fun K "_law_pick" "_law_pick" (top 31) (He.ga K "_law_pick") d17 := fun_of U17
  have b17 : L2.Binds K d17 ["_law_stream", "_law_things"] [] := F17.binds fun _ _ _ _ _ _ us hl => match us, hl with | [_, _], _ => rfl
  have a17 : At K mg "_law_pick" (He.ga K "_law_pick") d17 ["_law_stream", "_law_things"] := ⟨gl _ (by decide +kernel), F17.kp, b17⟩
  obtain ⟨d18, U18⟩ := D.def_ 18 (d := dG "_law_mixed" 32) rfl
  have F18 : Fun K "_law_mixed" "_law_mixed" (top 32) (He.ga K "_law_mixed") d18 := fun_of U18
  have b18 : L2.Binds K d18 ["_law_stream", "_law_things"] [] := F18.binds fun _ _ _ _ _ _ us hl => match us, hl with | [_, _], _ => rfl
  have a18 : At K mg "_law_mixed" (He.ga K "_law_mixed") d18 ["_law_stream", "_law_things"] := ⟨gl _ (by decide +kernel), F18.kp, b18⟩
  obtain ⟨d19, U19⟩ := D.def_ 19 (d := dG "_law_same" 33) rfl
  have F19 : Fun K "_law_same" "_law_same" (top 33) (He.ga K "_law_same") d19 := fun_of U19
  have b19 : L2.Binds K d19 ["_law_found", "_law_due"] [] := F19.binds fun _ _ _ _ _ _ us hl => match us, hl with | [_, _], _ => rfl
  have a19 : At K mg "_law_same" (He.ga K "_law_same") d19 ["_law_found", "_law_due"] := ⟨gl _ (by decide +kernel), F19.kp, b19⟩
  obtain ⟨d20, U20⟩ := D.def_ 20 (d := dG "_law_fresh" 34) rfl
  have F20 : Fun K "_law_fresh" "_law_fresh" (top 34) (He.ga K "_law_fresh") d20 := fun_of U20
  have b20 : L2.Binds K d20 ["_law_stream", "_law_taken"] [] := F20.binds fun _ _ _ _ _ _ us hl => match us, hl with | [_, _], _ => rfl
  have a20 : At K mg "_law_fresh" (He.ga K "_law_fresh") d20 ["_law_stream", "_law_taken"] := ⟨gl _ (by decide +kernel), F20.kp, b20⟩
  obtain ⟨d21, U21⟩ := D.def_ 21 (d := dG "_law_pool" 35) rfl
  have F21 : Fun K "_law_pool" "_law_pool" (top 35) (He.ga K "_law_pool") d21 := fun_of U21
  have b21 : L2.Binds K d21 ["_law_stream", "_law_many"] [] := F21.binds fun _ _ _ _ _ _ us hl => match us, hl with | [_, _], _ => rfl
  have a21 : At K mg "_law_pool" (He.ga K "_law_pool") d21 ["_law_stream", "_law_many"] := ⟨gl _ (by decide +kernel), F21.kp, b21⟩
  obtain ⟨d22, U22⟩ := D.def_ 22 (d := dG "_law_path" 36) rfl
  have F22 : Fun K "_law_path" "_law_path" (top 36) (He.ga K "_law_path") d22 := fun_of U22
  have b22 : L2.Binds K d22 ["_law_stream", "_law_pool_here", "_law_most"] [] := F22.binds fun _ _ _ _ _ _ us hl => match us, hl with | [_, _, _], _ => rfl
  have a22 : At K mg "_law_path" (He.ga K "_law_path") d22 ["_law_stream", "_law_pool_here", "_law_most"] := ⟨gl _ (by decide +kernel), F22.kp, b22⟩
  obtain ⟨d23, U23⟩ := D.def_ 23 (d := dG "_law_text" 37) rfl
  have F23 : Fun K "_law_text" "_law_text" (top 37) (He.ga K "_law_text") d23 := fun_of U23
  have b23 : L2.Binds K d23 ["_law_stream"] [] := F23.binds fun _ _ _ _ _ _ us hl => match us, hl with | [_], _ => rfl
  have a23 : At K mg "_law_text" (He.ga K "_law_text") d23 ["_law_stream"] := ⟨gl _ (by decide +kernel), F23.kp, b23⟩
  obtain ⟨d24, U24⟩ := D.def_ 24 (d := dG "_law_look" 38) rfl
  have F24 : Fun K "_law_look" "_law_look" (top 38) (He.ga K "_law_look") d24 := fun_of U24
  have b24 : L2.Binds K d24 ["_law_stream", "_law_pool_here"] [] := F24.binds fun _ _ _ _ _ _ us hl => match us, hl with | [_, _], _ => rfl
  have a24 : At K mg "_law_look" (He.ga K "_law_look") d24 ["_law_stream", "_law_pool_here"] := ⟨gl _ (by decide +kernel), F24.kp, b24⟩
  obtain ⟨d25, U25⟩ := D.def_ 25 (d := dG "_law_looks" 39) rfl
  have F25 : Fun K "_law_looks" "_law_looks" (top 39) (He.ga K "_law_looks") d25 := fun_of U25
  have b25 : L2.Binds K d25 ["_law_stream", "_law_pool_here", "_law_many"] [] := F25.binds fun _ _ _ _ _ _ us hl => match us, hl with | [_, _, _], _ => rfl
  have a25 : At K mg "_law_looks" (He.ga K "_law_looks") d25 ["_law_stream", "_law_pool_here", "_law_many"] := ⟨gl _ (by decide +kernel), F25.kp, b25⟩
  obtain ⟨d26, U26⟩ := D.def_ 26 (d := dG "_law_some_answer" 40) rfl
  have F26 : Fun K "_law_some_answer" "_law_some_answer" (top 40) (He.ga K "_law_some_answer") d26 := fun_of U26
  have b26 : L2.Binds K d26 ["_law_stream", "_law_pool_here", "_law_look_here"] [] := F26.binds fun _ _ _ _ _ _ us hl => match us, hl with | [_, _, _], _ => rfl
  have a26 : At K mg "_law_some_answer" (He.ga K "_law_some_answer") d26 ["_law_stream", "_law_pool_here", "_law_look_here"] := ⟨gl _ (by decide +kernel), F26.kp, b26⟩
  obtain ⟨d27, U27⟩ := D.def_ 27 (d := dG "_law_tree" 41) rfl
  have F27 : Fun K "_law_tree" "_law_tree" (top 41) (He.ga K "_law_tree") d27 := fun_of U27
  have b27 : L2.Binds K d27 ["_law_stream", "_law_pool_here", "_law_looks_here", "_law_most"] [] := F27.binds fun _ _ _ _ _ _ us hl => match us, hl with | [_, _, _, _], _ => rfl
  have a27 : At K mg "_law_tree" (He.ga K "_law_tree") d27 ["_law_stream", "_law_pool_here", "_law_looks_here", "_law_most"] := ⟨gl _ (by decide +kernel), F27.kp, b27⟩
  obtain ⟨d28, U28⟩ := D.def_ 28 (d := dG "_law_list" 42) rfl
  have F28 : Fun K "_law_list" "_law_list" (top 42) (He.ga K "_law_list") d28 := fun_of U28
  have b28 : L2.Binds K d28 ["_law_stream", "_law_tree_here"] [] := F28.binds fun _ _ _ _ _ _ us hl => match us, hl with | [_, _], _ => rfl
  have a28 : At K mg "_law_list" (He.ga K "_law_list") d28 ["_law_stream", "_law_tree_here"] := ⟨gl _ (by decide +kernel), F28.kp, b28⟩
  obtain ⟨d29, U29⟩ := D.def_ 29 (d := dG "_law_looks_of" 43) rfl
  have F29 : Fun K "_law_looks_of" "_law_looks_of" (top 43) (He.ga K "_law_looks_of") d29 := fun_of U29
  have b29 : L2.Binds K d29 ["_law_tree_here"] [] := F29.binds fun _ _ _ _ _ _ us hl => match us, hl with | [_], _ => rfl
  have a29 : At K mg "_law_looks_of" (He.ga K "_law_looks_of") d29 ["_law_tree_here"] := ⟨gl _ (by decide +kernel), F29.kp, b29⟩
  obtain ⟨d30, U30⟩ := D.def_ 30 (d := dG "_law_turned" 44) rfl
  have F30 : Fun K "_law_turned" "_law_turned" (top 44) (He.ga K "_law_turned") d30 := fun_of U30
  have b30 : L2.Binds K d30 ["_law_stream", "_law_tree_here"] [] := F30.binds fun _ _ _ _ _ _ us hl => match us, hl with | [_, _], _ => rfl
  have a30 : At K mg "_law_turned" (He.ga K "_law_turned") d30 ["_law_stream", "_law_tree_here"] := ⟨gl _ (by decide +kernel), F30.kp, b30⟩
  obtain ⟨d31, U31⟩ := D.def_ 31 (d := dG "_law_unlike" 45) rfl
  have F31 : Fun K "_law_unlike" "_law_unlike" (top 45) (He.ga K "_law_unlike") d31 := fun_of U31
  have b31 : L2.Binds K d31 ["_law_tree_here"] [] := F31.binds fun _ _ _ _ _ _ us hl => match us, hl with | [_], _ => rfl
  have a31 : At K mg "_law_unlike" (He.ga K "_law_unlike") d31 ["_law_tree_here"] := ⟨gl _ (by decide +kernel), F31.kp, b31⟩
  obtain ⟨d32, U32⟩ := D.def_ 32 (d := dG "_law_unlikes" 46) rfl
  have F32 : Fun K "_law_unlikes" "_law_unlikes" (top 46) (He.ga K "_law_unlikes") d32 := fun_of U32
  have b32 : L2.Binds K d32 ["_law_stream", "_law_pool_here", "_law_tree_here"] [] := F32.binds fun _ _ _ _ _ _ us hl => match us, hl with | [_, _, _], _ => rfl
  have a32 : At K mg "_law_unlikes" (He.ga K "_law_unlikes") d32 ["_law_stream", "_law_pool_here", "_law_tree_here"] := ⟨gl _ (by decide +kernel), F32.kp, b32⟩
  obtain ⟨d33, U33⟩ := D.def_ 33 (d := dG "law" 47) rfl
  have F33 : Fun K "law" "law" (top 47) (He.ga K "law") d33 := fun_of U33
  obtain ⟨d34, U34⟩ := D.def_ 34 (d := dI "Step" "__init__" "Step.__init__" 28 0 []) rfl
  have F34 : Fun K "__init__" "Step.__init__" (inClass (top 28) 0) (He.ma K (He.ga K "Step") "__init__") d34 := fun_of U34
  have b34 : L2.Binds K d34 ["self", "tree"] [] := F34.binds fun _ _ _ _ _ _ us hl => match us, hl with | [_, _], _ => rfl
  obtain ⟨d35, U35⟩ := D.def_ 35 (d := dI "Step" "tree" "Step.tree" 28 1 []) rfl
  have F35 : Fun K "tree" "Step.tree" (inClass (top 28) 1) (He.ma K (He.ga K "Step") "tree") d35 := fun_of U35
  have b35 : L2.Binds K d35 ["self"] [] := F35.binds fun _ _ _ _ _ _ us hl => match us, hl with | [_], _ => rfl
  obtain ⟨d36, U36⟩ := D.def_ 36 (d := dI "Step" "looks" "Step.looks" 28 2 []) rfl
  have F36 : Fun K "looks" "Step.looks" (inClass (top 28) 2) (He.ma K (He.ga K "Step") "looks") d36 := fun_of U36
  have b36 : L2.Binds K d36 ["self"] [] := F36.binds fun _ _ _ _ _ _ us hl => match us, hl with | [_], _ => rfl
  obtain ⟨d37, U37⟩ := D.def_ 37 (d := dI "Step" "__eq__" "Step.__eq__" 28 4 []) rfl
  have F37 : Fun K "__eq__" "Step.__eq__" (inClass (top 28) 4) (He.ma K (He.ga K "Step") "__eq__") d37 := fun_of U37
  have b37 : L2.Binds K d37 ["self", "other"] [] := F37.binds fun _ _ _ _ _ _ us hl => match us, hl with | [_, _], _ => rfl
  have bL : ∀ (s : Shared) (u : Value), BindsTo s d33 ⟨[u], []⟩ [("_law_script", u)] := by
    obtain ⟨oc, od, kV, doc, pm, an, cdv, ct, osl, rfl, lk, hcd⟩ := F33.ex
    exact fun s u => .of_eq rfl
  refine ⟨d33, bL, fun base KB GB SM => ?_⟩
  have T : TB mg := ⟨(fr _ (by decide +kernel)), (fr _ (by decide +kernel)), (fr _ (by decide +kernel)), (fr _ (by decide +kernel)), (fr _ (by decide +kernel)), (fr _ (by decide +kernel)), (fr _ (by decide +kernel)), (fr _ (by decide +kernel)), (fr _ (by decide +kernel)), (fr _ (by decide +kernel)), (fr _ (by decide +kernel)), (fr _ (by decide +kernel))⟩
  have T0 : TPk mg := ⟨T, He.str_ok X G (co _ (List.mem_cons_self ..)), He.str_ok X G (co _ (List.mem_cons_of_mem _ (List.mem_cons_self ..))), He.str_ok X G (co _ (List.mem_cons_of_mem _ (List.mem_cons_of_mem _ (List.mem_cons_self ..)))), He.int_ok X G (co _ (List.mem_cons_of_mem _ (List.mem_cons_of_mem _ (List.mem_cons_of_mem _ (List.mem_cons_self ..)))))⟩
  obtain ⟨xT, ex⟩ := He.ba ex
  obtain ⟨xTf, ex⟩ := He.ba ex
  have xSO := ex
  have cT := HB.clsB_ok xT
  have fT := HB.firB_ok xTf
  have SO0 : RQ.SubO K (He.ga K "Step") := fun t ht => eq_of_beq (List.all_eq_true.mp xSO t ht)
  have IS0 : ClIs K (He.ga K "Step") := ⟨cT.ha, cT.hn, cT.ht, cT.hm, cT.kC⟩
  let mt0 : Str → Addr := fun m => He.ma K (He.ga K "Step") m
  have mt1 : ∀ x ∈ tMeth, Meth K (He.ga K "Step") x (mt0 x) := by
    intro x hx
    unfold tMeth at hx
    simp only [List.mem_cons, List.mem_nil_iff, or_false] at hx
    rcases hx with rfl
    · exact He.meth_ok (co _ (List.mem_cons_of_mem _ (List.mem_cons_of_mem _ (List.mem_cons_of_mem _ (List.mem_cons_of_mem _ (List.mem_cons_of_mem _ (List.mem_cons_of_mem _ (List.mem_cons_self ..))))))))
  have S0 : TCl K mg (He.ga K "Step") mt0 := ⟨(gl _ (by decide +kernel)), He.cls_ok (co _ (List.mem_cons_of_mem _ (List.mem_cons_of_mem _ (List.mem_cons_of_mem _ (List.mem_cons_of_mem _ (List.mem_cons_of_mem _ (List.mem_cons_of_mem _ (List.mem_cons_of_mem _ (List.mem_cons_self ..))))))))), He.noat_ok (co _ (List.mem_cons_of_mem _ (List.mem_cons_of_mem _ (List.mem_cons_of_mem _ (List.mem_cons_of_mem _ (List.mem_cons_of_mem _ (List.mem_cons_of_mem _ (List.mem_cons_of_mem _ (List.mem_cons_of_mem _ (List.mem_cons_self ..)))))))))), He.noat_ok (co _ (List.mem_cons_of_mem _ (List.mem_cons_of_mem _ (List.mem_cons_of_mem _ (List.mem_cons_of_mem _ (List.mem_cons_of_mem _ (List.mem_cons_of_mem _ (List.mem_cons_of_mem _ (List.mem_cons_of_mem _ (List.mem_cons_of_mem _ (List.mem_cons_self ..))))))))))), He.mkr_ok (co _ (List.mem_cons_of_mem _ (List.mem_cons_of_mem _ (List.mem_cons_of_mem _ (List.mem_cons_of_mem _ (List.mem_cons_of_mem _ (List.mem_cons_of_mem _ (List.mem_cons_of_mem _ (List.mem_cons_of_mem _ (List.mem_cons_of_mem _ (List.mem_cons_of_mem _ (List.mem_cons_self ..)))))))))))), mt1, cT.ha, cT.hn, cT.ht, cT.hm⟩
  have G1__law_draw := ok_draw (P := P) (w := w) (base := base) (mg := mg) F16 ⟨(fr _ (by decide +kernel))⟩
  have G4__law_pick := ok_pick (P := P) (w := w) (base := base) (mg := mg) F17 ⟨T.int, T.len, T.range, T.list, a16.m, a16.k, a16.b⟩ G1__law_draw
  have G3__law_fresh := ok_fresh (P := P) (w := w) (base := base) (mg := mg) F20 T a16 a17 G1__law_draw G4__law_pick
  have G2__law_pool := ok_pool (P := P) (w := w) (base := base) (mg := mg) F21 T a20 G3__law_fresh
  have G8__law_path := ok_path (P := P) (w := w) (base := base) (mg := mg) F22 T a16 a17 G1__law_draw G4__law_pick
  have G7__law_look := ok_look (P := P) (w := w) (base := base) (mg := mg) F24 T a16 a17 a22 G1__law_draw G4__law_pick G8__law_path
  have G6__law_looks := ok_looks (P := P) (w := w) (base := base) (mg := mg) F25 T a24 G7__law_look
  have G10__law_mixed := ok_mixed (P := P) (w := w) (base := base) (mg := mg) F18 T a16 G1__law_draw
  have G11__law_text := ok_text (P := P) (w := w) (base := base) (mg := mg) F23 a16 G1__law_draw
  have G9__law_some_answer := ok_some (P := P) (w := w) (base := base) (mg := mg) F26 T a16 a18 a23 G1__law_draw G10__law_mixed G11__law_text
  have G5__law_tree := ok_ltree5 (P := P) (w := w) (base := base) (mg := mg) F27 T a16 G1__law_draw a25 G6__law_looks a26 G9__law_some_answer a27
  have G12__law_list := ok_li5 (P := P) (w := w) (base := base) (mg := mg) F28 T a28 a16 G1__law_draw
  have G13__law_looks_of := ok_llof5 (P := P) (w := w) (base := base) (mg := mg) F29 T a29
  have G15__law_mixed := ok_mixedT (P := P) (w := w) (base := base) (mg := mg) F18 T a16 G1__law_draw
  have G14__law_turned := ok_turn5 (P := P) (w := w) (base := base) (mg := mg) F30 T a30 a18 G15__law_mixed
  have G17__law_unlike := ok_unl5 (P := P) (w := w) (base := base) (mg := mg) F31 T a31
  have G16__law_unlikes := ok_uns (P := P) (w := w) (base := base) (mg := mg) F32 T a31 G17__law_unlike a20 G3__law_fresh
  have G18__law_same := ok_same (P := P) (w := w) (base := base) (mg := mg) F19 (fr _ (by decide +kernel)) SM
  have G22_is_row := ok_row (P := P) (w := w) (base := base) (mg := mg) F3 T
  have G21_is_end := ok_ie (P := P) (w := w) (base := base) (mg := mg) F11 T a3 G22_is_row
  have G26_is_name := ok_isName (P := P) (w := w) (base := base) (mg := mg) F0 T0
  have G27_is_path := ok_isPath (P := P) (w := w) (base := base) (mg := mg) F1 T0 a0 G26_is_name
  have G28_is_place := ok_isPlace (P := P) (w := w) (base := base) (mg := mg) F2 T0 a1 G27_is_path
  have G25_can_look := ok_canLook (P := P) (w := w) (base := base) (mg := mg) F5 T0 a0 a1 a2 G26_is_name G27_is_path G28_is_place
  have G24_as_look := ok_asLook (P := P) (w := w) (base := base) (mg := mg) F4 T a3 a5 G22_is_row G25_can_look
  have G23_look_of_ask := ok_loa (P := P) (w := w) (base := base) (mg := mg) F12 T a3 G22_is_row a4 G24_as_look
  have G32_is_entry := ok_isEntry (P := P) (w := w) (base := base) (mg := mg) F8 T0 a0 G26_is_name
  have G31_is_listing := ok_isListing (P := P) (w := w) (base := base) (mg := mg) F7 T0 a8 G32_is_entry
  have G30_can_show := ok_canShow (P := P) (w := w) (base := base) (mg := mg) F6 T0 a7 G31_is_listing
  have G29_as_sight := ok_asSight (P := P) (w := w) (base := base) (mg := mg) F9 T a3 a4 a6 G22_is_row G24_as_look G30_can_show
  have G20_plain_tree := ok_pt5 (P := P) (w := w) (base := base) (mg := mg) F10 T a10 a11 G21_is_end a12 G23_look_of_ask a9 G29_as_sight a3 G22_is_row
  have G33_unordered := ok_un5 (P := P) (w := w) (base := base) (mg := mg) F13 T a13
  have G19_Step___init__ := ok_tini5 (P := P) (w := w) (base := base) (mg := mg) F34 T S0 a10 G20_plain_tree a13 G33_unordered
  have G34_Step_tree := ok_ttreeN (P := P) (w := w) (base := base) (mg := mg) F35 S0
  have G37_parts_of := ok_pof (P := P) (w := w) (base := base) (mg := mg) F15 T
  have G36_looks_in := ok_lin5 (P := P) (w := w) (base := base) (mg := mg) F14 T a14 a15 G37_parts_of
  have G35_Step_looks := ok_tlooks (P := P) (w := w) (base := base) (mg := mg) F36 T S0 a14 G36_looks_in
  have G38_Step___eq__ := ok_teqU2 (P := P) (w := w) (base := base) (mg := mg) F37 T S0 IS0
  let fa : Str → Addr := fun m => if m = "D" then He.ga K "_law_draw" else if m = "LList" then He.ga K "_law_list" else if m = "LLof" then He.ga K "_law_looks_of" else if m = "LTree" then He.ga K "_law_tree" else if m = "LTurn" then He.ga K "_law_turned" else if m = "LUns" then He.ga K "_law_unlikes" else if m = "Po" then He.ga K "_law_pool" else if m = "Sa" then He.ga K "_law_same" else if m = "TEqU" then He.ma K (He.ga K "Step") "__eq__" else He.ma K (He.ga K "Step") "looks"
  let fdd : Str → FuncData := fun m => if m = "D" then d16 else if m = "LList" then d28 else if m = "LLof" then d29 else if m = "LTree" then d27 else if m = "LTurn" then d30 else if m = "LUns" then d32 else if m = "Po" then d21 else if m = "Sa" then d19 else if m = "TEqU" then d37 else if m = "TIni" then d34 else if m = "TLooks" then d36 else d35
  have V0 : LV P w K mg base (He.ga K "Step") mt0 fa fdd :=
    { T := T, mRepr := (fr _ (by decide +kernel)), aD := a16, GD := G1__law_draw, aPo := a21, GPo := G2__law_pool, aLTree := a27, GLTree := G5__law_tree, aLList := a28, GLList := G12__law_list, aLLof := a29, GLLof := G13__law_looks_of, aLTurn := a30, GLTurn := G14__law_turned, aLUns := a32, GLUns := G16__law_unlikes, aSa := a19, GSa := G18__law_same, S0 := S0, IS := IS0, SO := SO0, bTIni := b34, GTIni := G19_Step___init__, bTTree := b35, GTTree := G34_Step_tree, mTLooks := (He.meth_ok (co _ (List.mem_cons_of_mem _ (List.mem_cons_of_mem _ (List.mem_cons_of_mem _ (List.mem_cons_of_mem _ (List.mem_cons_self ..))))))), bTLooks := b36, GTLooks := G35_Step_looks, mTEq := (He.meth_ok (co _ (List.mem_cons_of_mem _ (List.mem_cons_of_mem _ (List.mem_cons_of_mem _ (List.mem_cons_of_mem _ (List.mem_cons_of_mem _ (List.mem_cons_self ..)))))))), bTEqU := b37, GTEqU := G38_Step___eq__, tne := cT.ne, tso := cT.so, kT := fT.kT, nC := fT.nC }
  exact ok_law F33 V0 SM
end
end T5

set_option maxHeartbeats 0
open PySem PySem.W PySem.Calls PyProof.Rows
theorem PySem.Challenge.cw_trueagain_k12_steps_made_holds : PySem.Challenge.rw_trueagain_k12_steps_made.Holds := by
  w_on; o_law
  refine HandSHeadRun.head_any (r := T5.RL) (q := view T5.RL.prog [47]) (H := T5.hkL) (ob := T5.obL) (M := 20000) (loose := T5.looseL) (d := HandSHeadRun.topDef T5.RL.prog 47) (kwd := []) T5.obL_eq
    (by kernel_rfl) (fun s => by kernel_rfl) T5.runL (by kernel_rfl) (by kernel_rfl) (by kernel_rfl) (by rfl) (by first | assumption | decide +kernel) (by decide +kernel) ⟨rfl, rfl, rfl, rfl, rfl, by decide +kernel⟩ ?hw ?hc
  case hw => w_witness2
  case hc =>
    refine EG.walkG (l := PySem.Challenge.rw_trueagain_k12_steps_made) (n := 63) (k := 25) (x := "_law_script") rfl (by decide) (by kernel_rfl) ⟨rfl, by decide, by decide⟩ ?F
    intro w mg fa h Y GG hmg0
    obtain ⟨⟨K, KX, c⟩, sys⟩ := Y
    have hmg : mg ("law" : PySem.Str) = some (.ref fa) := by
      have e : (HandSHeadRun.topDef T5.RL.prog 47).name = ("law" : PySem.Str) := by kernel_rfl
      rw [← e]
      exact hmg0
    obtain ⟨fd, hb, hF⟩ := T5.whole (P := PySem.Challenge.rw_trueagain_k12_steps_made.prog) (w := w) KX GG hmg c
    have no : ∀ p : PySem.Addr × PySem.Addr, p ∉ ([] : List (PySem.Addr × PySem.Addr)) := fun p hp => by cases hp
    exact ⟨K, [], fd, T5.spLaw K, KX, fun p hp => absurd hp (no p), fun p hp => absurd hp (no p), fun p hp => absurd hp (no p), sys, hb, fun H a ns hl _ _ hS => ⟨a, ns, rfl, hl, hS, fun _ => rfl⟩, fun base b1 b2 _ b4 => hF base b1 b2 b4⟩
