import PyProof.Rows.All
import Wide.All
import OpenK.AllK
import Wide.FinOn
import HandS.ForMost
import HandS.Wide
import HandS.Codes
import HandS.Conv
import HandS.Deep
import PySem.Challenge.RW_trueagain_k31_run_texts_refused
import PyProof.ReprRoads
import HandS.Lambda
import HandS.EndTab
import HandS.Walk
import HandS.IsInst
import HandS.StrMore
import HandS.SetKeys
import HandS.Exc
import HandS.TryOnly
import HandS.WordsExc
import HandS.ExcInit
import HandS.ExcField
import HandS.ExcOwn
import HandS.Head0
import HandS.Head1
import HandS.Head2
import HandS.HeadEnd
import HandS.HeadHook1
import HandS.HeadHook2
import HandS.HeadHook3
import HandS.HeadHook4
import HandS.Defaults
import HandS.DictTup
import PyProof.DictMoreH
import HandS.Iter
import KE.GoesMore
import KE.GoesZip
import KE.KEqDict
import HandS.More
import HandS.Text
import HandS.SetBool
import HandS.Strs
import HandS.TupSets
import HandS.OwnEq
import KE.KOpsOwn
import PyProof.InstNe
import HandS.Base
import HandS.Call
set_option Elab.async false
set_option linter.all false
set_option maxRecDepth 100000
set_option maxHeartbeats 3900000
namespace K3
open PySem PySem.Spec PyProof.Rows L2
open C8 (pss_cut tCut pe_gc)
def top (i : Nat) : Stmt := PySem.Challenge.pw_trueagain_k31_run_texts_refused.main.body.getD i (.Pass ⟨0, 0, 0, 0⟩)
abbrev sDraw : Stmt := top 55
abbrev sPick : Stmt := top 56
abbrev sMixed : Stmt := top 57
abbrev sFresh : Stmt := top 59
abbrev sPool : Stmt := top 60
abbrev sPath : Stmt := top 61
abbrev sText : Stmt := top 64
def SV (H : Hp) (st l : Addr) (ns : List Int) (a c m : Int) : Prop := H st = some (.lst [.ref l, .int a, .int c, .int m]) ∧ H l = some (.lst (ns.map V.int))
theorem SV.ne {H : Hp} {st l : Addr} {ns : List Int} {a c m : Int} (S : SV H st l ns a c m) : st ≠ l := by
  refine ne_of S.1 S.2 fun z => ?_
  have z2 : [V.ref l, V.int a, V.int c, V.int m] = ns.map V.int := HO.lst.inj z
  cases ns with
  | nil => cases z2
  | cons n r =>
    rw [List.map_cons] at z2
    have := (List.cons.inj z2).1
    cases this
def Good (H : Hp) (st l : Addr) (c : Int) : Prop := ∃ (ns : List Int) (a m : Int), SV H st l ns a c m ∧ ns.length ≤ 63 ∧ 0 ≤ a ∧ 0 ≤ m ∧ m < 2147483647
structure Strm (H : Hp) (st l : Addr) (c : Nat) : Prop where
  ex : Good H st l (c : Int)
def But (st l : Addr) (H H' : Hp) : Prop := ∀ b o, H b = some o → b ≠ st → b ≠ l → H' b = some o
theorem But.refl {st l : Addr} {H : Hp} : But st l H H := fun _ _ e _ _ => e
theorem But.st {st l : Addr} {H H' : Hp} {o : HO} (B : But st l H H') : But st l H (upd H' st o) := fun b u e h1 h2 => by
  rw [upd_ne h1]
  exact B b u e h1 h2
theorem But.li {st l : Addr} {H H' : Hp} {o : HO} (B : But st l H H') : But st l H (upd H' l o) := fun b u e h1 h2 => by
  rw [upd_ne h2]
  exact B b u e h1 h2
theorem But.new {st l p : Addr} {H H' : Hp} {o : HO} (B : But st l H H') (h : H' p = none) : But st l H (upd H' p o) := fun b u e h1 h2 => by
  have q := B b u e h1 h2
  rw [upd_ne (ne_of_none q h)]
  exact q
theorem SV.st {H : Hp} {st l : Addr} {ns : List Int} {a c m a' c' m' : Int} {xs : List V} (S : SV H st l ns a c m) (e : xs = [.ref l, .int a', .int c', .int m']) : SV (upd H st (.lst xs)) st l ns a' c' m' := by
  subst e
  refine ⟨upd_same, ?_⟩
  rw [upd_ne S.ne.symm]
  exact S.2
theorem SV.new {H : Hp} {st l p : Addr} {ns : List Int} {a c m : Int} {o : HO} (S : SV H st l ns a c m) (h : H p = none) : SV (upd H p o) st l ns a c m := by
  refine ⟨?_, ?_⟩
  · rw [upd_ne (ne_of_none S.1 h)]
    exact S.1
  · rw [upd_ne (ne_of_none S.2 h)]
    exact S.2
theorem SV.li {H : Hp} {st l : Addr} {ns ns' : List Int} {a c m : Int} {xs : List V} (S : SV H st l ns a c m) (e : xs = ns'.map V.int) : SV (upd H l (.lst xs)) st l ns' a c m := by
  subst e
  refine ⟨?_, upd_same⟩
  rw [upd_ne S.ne]
  exact S.1
def spDraw : Sp := fun vs H Q _ => ∃ (st l : Addr) (c : Nat) (many : Int), vs = [.ref st, .int many] ∧ Strm H st l c ∧ c ≤ 1000000 ∧ 0 < many ∧ many < 1000000 ∧
  ∀ (d : Int) (H' : Hp), 0 ≤ d → d < many → But st l H H' → Strm H' st l (c + 1) → Q (.int d) H'
structure TDraw (mg : Str → Option Value) : Prop where
  int : mg "int" = none
section
variable {P : Program} {w : World} {K : PySem.W.Frag} {mg : Str → Option Value} {base : Heap}
theorem dp_ints {H : Hp} : ∀ ns : List Int, DpAll K H (ns.map V.int) (ns.map PyData.int)
  | [] => .nil
  | n :: r => .cons (.int n) (dp_ints r)
theorem scD : FnScope ["_law_stream", "_law_many", "_law_digit", "_law_mixed_here"] ["_law_stream", "_law_many"] (defScope sDraw) := ⟨rfl, rfl, rfl, by decide +kernel, rfl, by decide +kernel, by decide +kernel⟩
theorem ok_draw {f : Addr} {fd : FuncData} (F : Fun K "_law_draw" "_law_draw" sDraw f fd) (T : TDraw mg) : FnOk P w K mg base CX0 1 f fd ["_law_stream", "_law_many"] spDraw := by
  refine F.ok scD (fun vs H Q E h => ?_) (fun cdv A outer s H vs Q E hr h => ?_)
  · obtain ⟨st, l, c, many, rfl, _⟩ := h
    rfl
  · obtain ⟨st, l, c, many, rfl, S, hc, hm0, hm1, k⟩ := h
    have hu := hr.units
    refine ⟨_, pss_cut (ps_asg (pe_op op_add (pe_ix ix_list (pv 0) pe_int (fun _ _ => rfl)) pe_int) (pg_sub (pv 0) pe_int set_list))
      (pss_cut (ps_if (PW.pt (pw_and (pt_cmpR op_eq (pe_ix ix_list (pv 0) pe_int (fun _ _ => rfl)) pe_int (nomark _)) (pw_and1 (pt_cmpR (op_neD hu) (pe_ix ix_list (pv 0) pe_int (fun _ _ => rfl)) (pe_lst pa_nil) (nomark _)))))
        (pss_cut (ps_asg (pe_bm PySem.F.plainAttrs_list PySem.F.slot_list_pop PySem.F.type_list_pop mt_popAt (pe_ix ix_list (pv 0) pe_int (fun _ _ => rfl)) (pa_cons pe_int pa_nil)) (pg_sub (pv 0) pe_int set_list))
          (pss_one (ps_if (pt_cmpR op_lt (pe_ix ix_list (pv 0) pe_int (fun _ _ => rfl)) (pe_op op_pow pe_int pe_int) (nomark _))
            (pss_cut (ps_asg (pe_op op_mod (pe_callTy call_int1 (by rfl) T.int (by decide +kernel) (pa_cons (pe_op op_add (pe_op op_add (pe_op op_mul (pe_ix ix_list (pv 0) pe_int (fun _ _ => rfl)) pe_int) (pe_ix ix_list (pv 0) pe_int (fun _ _ => rfl))) pe_int) pa_nil)) pe_int) (pg_sub (pv 0) pe_int set_list))
              (pss_one (ps_asg pe_int (pg_sub (pv 0) pe_int set_list)))) pss_nil)))
        pss_nil)
      (pss_cut (ps_if (pt_cmpR op_gt (pe_ix ix_list (pv 0) pe_int (fun _ _ => rfl)) pe_int (nomark _))
        (pss_cons (ps_set (i := 2) scD.nd rfl (Or.inl rfl) (pe_op op_mod (pe_callTy call_int1 (by rfl) T.int (by decide +kernel) (pa_cons (pe_ix ix_list (pv 0) pe_int (fun _ _ => rfl)) pa_nil)) (pv 1)))
          (pss_cons (ps_asg (pe_op op_fdivW (pe_ix ix_list (pv 0) pe_int (fun _ _ => rfl)) (pv 1)) (pg_sub (pv 0) pe_int set_list))
            (pss_one (ps_ret (pv 2))))) pss_nil)
      (pss_cons (ps_set (i := 3) scD.nd rfl (Or.inl rfl) (pe_op op_mod (pe_op op_pow (pe_op op_add (pe_op op_add (pe_ix ix_list (pv 0) pe_int (fun _ _ => rfl)) (pe_op op_mul pe_int (pe_ix ix_list (pv 0) pe_int (fun _ _ => rfl)))) pe_int) pe_int) pe_int))
        (pss_one (ps_ret (pe_op op_mod (pe_op op_mod (pe_op op_pow (pe_op op_add (pe_op op_add (pe_op op_mul (pv 3) pe_int)
            (pe_op op_mul (pe_op op_mul pe_int (pe_ix ix_list (pv 0) pe_int (fun _ _ => rfl))) (pe_ix ix_list (pv 0) pe_int (fun _ _ => rfl)))) pe_int) pe_int) pe_int) (pv 1))))))), ?_⟩
    obtain ⟨ns, a, m, hS, hns, ha, hm, hm2⟩ := S.ex
    -- stream[2] = stream[2] + 1
    refine ⟨fun σ H' => σ = [some (.ref st), some (.int many), none, none] ∧ But st l H H' ∧ SV H' st l ns a ((c + 1 : Nat) : Int) m,
      ⟨_, rfl, st, _, _, _, rfl, rfl, SqL.of hS.1, rfl, _, _, rfl, rfl, _, rfl, st, _, 2, 2, rfl, rfl, hS.1, rfl, rfl, But.refl.st, hS.st rfl⟩, ?_⟩
    rintro _ H1 ⟨rfl, B1, S1⟩
    -- if stream[1] == 0 and stream[0] != []: ..
    refine ⟨fun σ H' => σ = [some (.ref st), some (.int many), none, none] ∧ But st l H H' ∧ Good H' st l ((c + 1 : Nat) : Int),
      ⟨_, rfl, st, _, _, _, rfl, rfl, SqL.of S1.1, rfl, rfl, _, rfl, ?_⟩, ?_⟩
    · refine ite2 (fun ea => ?_) (fun _ => iteF ⟨rfl, B1, ns, a, m, S1, hns, ha, hm, hm2⟩)
      refine ⟨_, rfl, st, _, _, _, rfl, rfl, SqL.of S1.1, rfl, Nat.zero_le _, fun p hp => ?_⟩
      have S2 := S1.new (o := .lst []) hp
      have B2 := B1.new (o := .lst []) hp
      refine ⟨.list (ns.map .int), .list [], .lst (SqL.of S2.2) ?_, .lst (SqL.of upd_same) .nil, ?_, rfl, _, rfl, ?_⟩
      · exact dp_ints ns
      · exact PySem.W.shaped_ints ns
      · cases ns with
        | nil => exact iteF ⟨rfl, B2, [], a, m, S2, hns, ha, hm, hm2⟩
        | cons n r =>
          refine iteT ?_
          have hns' : r.length ≤ 63 := by
            rw [List.length_cons] at hns
            omega
          have e0 : seqIndex? 0 (((n :: r).map V.int).length) = some 0 := by
            rw [List.length_map, List.length_cons]
            simp [seqIndex?]
          -- stream[1] = stream[0].pop(0)
          refine ⟨fun σ H' => σ = [some (.ref st), some (.int many), none, none] ∧ But st l H H' ∧ SV H' st l r n ((c + 1 : Nat) : Int) m,
            ⟨_, rfl, st, _, _, _, rfl, rfl, SqL.of S2.1, rfl, .inl ⟨rfl, _, SqL.of S2.2⟩, l, _, 0, 0, _, rfl, rfl, S2.2, by decide, by decide, e0, rfl, _, rfl, st, _, 1, 1, rfl, rfl, (S2.li (ns' := r) rfl).1, rfl, rfl, B2.li.st, (S2.li (ns' := r) rfl).st rfl⟩, ?_⟩
          rintro _ H3 ⟨rfl, B3, S3⟩
          -- if stream[1] < 10 ** 18: ..
          refine ⟨_, rfl, st, _, _, _, rfl, rfl, SqL.of S3.1, rfl, _, _, rfl, rfl, ⟨by decide, by decide, by decide⟩, _, _, rfl, rfl, _, rfl, ?_⟩
          refine ite2 (fun lt => ?_) (fun ge => ?_)
          · refine ⟨fun σ H' => σ = [some (.ref st), some (.int many), none, none] ∧ But st l H H' ∧ ∃ m' : Int, SV H' st l r n ((c + 1 : Nat) : Int) m' ∧ 0 ≤ m' ∧ m' < 2147483647,
              ⟨_, rfl, st, _, _, _, rfl, rfl, SqL.of S3.1, rfl, _, _, rfl, rfl, .inr ⟨by decide, by decide⟩, _, rfl, st, _, _, _, rfl, rfl, SqL.of S3.1, rfl, _, _, rfl, rfl, _, _, rfl, rfl, .inl ⟨_, rfl, _, _, rfl, rfl, (by show (0 : Int) < 2147483647; decide),
                _, rfl, st, _, 3, 3, rfl, rfl, S3.1, rfl, rfl, B3.st, _, S3.st rfl, Int.emod_nonneg _ (by decide), Int.emod_lt_of_pos _ (by decide)⟩⟩, ?_⟩
            rintro _ H4 ⟨rfl, B4, m', S4, h1, h2⟩
            exact ⟨_, rfl, st, _, 1, 1, rfl, rfl, S4.1, rfl, rfl, B4.st, r, 0, m', S4.st rfl, hns', by decide, h1, h2⟩
          · have ge' : ¬ n < (10 : Int) ^ (18 : Int).toNat := fun z => ge (decide_eq_true z)
            have e : (10 : Int) ^ (18 : Int).toNat = 1000000000000000000 := by decide
            rw [e] at ge'
            exact ⟨rfl, B3, r, n, m, S3, hns', by omega, hm, hm2⟩
    · rintro _ H3 ⟨rfl, B3, ns3, a3, m3, S3, hns3, ha3, hm3, hm33⟩
      have ml : many.natAbs.log2 < 9000 := by
        have := PySem.Flt.log2_lt_of (k := 20) (by decide) (show many.natAbs < 2 ^ 20 by omega)
        omega
      -- if stream[1] > 0: ..
      refine ⟨fun σ H' => σ = [some (.ref st), some (.int many), none, none] ∧ But st l H H' ∧ Good H' st l ((c + 1 : Nat) : Int),
        ⟨_, rfl, st, _, _, _, rfl, rfl, SqL.of S3.1, rfl, _, _, rfl, rfl, _, rfl, ?_⟩, ?_⟩
      · refine ite2 (fun _ => ?_) (fun _ => ⟨rfl, B3, ns3, a3, m3, S3, hns3, ha3, hm3, hm33⟩)
        refine ⟨_, rfl, st, _, _, _, rfl, rfl, SqL.of S3.1, rfl, .inl ⟨_, rfl, _, rfl, _, _, rfl, rfl, hm0, ?_⟩⟩
        refine ⟨_, rfl, st, _, _, _, rfl, rfl, SqL.of S3.1, rfl, _, rfl, _, _, rfl, rfl, ⟨hm0, ml⟩, _, rfl, st, _, 1, 1, rfl, rfl, S3.1, rfl, _, rfl, ?_⟩
        exact k _ _ (Int.emod_nonneg _ (by omega)) (Int.emod_lt_of_pos _ hm0) B3.st ⟨ns3, a3 / many, m3, S3.st rfl, hns3, Int.ediv_nonneg ha3 (by omega), hm3, hm33⟩
      · rintro _ H4 ⟨rfl, B4, ns4, a4, m4, S4, hns4, ha4, hm4, hm44⟩
        refine ⟨_, rfl, st, _, _, _, rfl, rfl, SqL.of S4.1, rfl, _, rfl, st, _, _, _, rfl, rfl, SqL.of S4.1, rfl, _, _, rfl, rfl, .inl ⟨by decide, by decide⟩, _, _, rfl, rfl, _, _, rfl, rfl, _, _, rfl, rfl, ⟨by decide, by decide, by omega⟩, _, _, rfl, rfl, (by show (0 : Int) < 2147483629; decide), ?_⟩
        generalize hx : (m4 + 104729 * ((c + 1 : Nat) : Int) + 17) ^ (5 : Int).toNat % 2147483629 = x
        have x0 : 0 ≤ x := by
          rw [← hx]
          exact Int.emod_nonneg _ (by decide)
        have x1 : x < 2147483629 := by
          rw [← hx]
          exact Int.emod_lt_of_pos _ (by decide)
        have cc : 40503 * ((c + 1 : Nat) : Int) * ((c + 1 : Nat) : Int) ≤ 40503 * 1000001 * 1000001 := Int.mul_le_mul (by omega) (by omega) (by omega) (by decide)
        have c0 : 0 ≤ 40503 * ((c + 1 : Nat) : Int) * ((c + 1 : Nat) : Int) := Int.mul_nonneg (by omega) (by omega)
        refine ⟨_, rfl, _, _, rfl, rfl, .inr ⟨by decide, by decide⟩, _, rfl, st, _, _, _, rfl, rfl, SqL.of S4.1, rfl, _, _, rfl, rfl, .inl ⟨by decide, by decide⟩, _, rfl, st, _, _, _, rfl, rfl, SqL.of S4.1, rfl, _, _, rfl, rfl, .inr ⟨by omega, by omega⟩,
          _, _, rfl, rfl, _, _, rfl, rfl, _, _, rfl, rfl, ⟨by decide, by decide, by omega⟩, _, _, rfl, rfl, (by show (0 : Int) < 1000000007; decide), _, rfl, _, _, rfl, rfl, hm0, ?_⟩
        exact k _ _ (Int.emod_nonneg _ (by omega)) (Int.emod_lt_of_pos _ hm0) B4 ⟨ns4, a4, m4, S4, hns4, ha4, hm4, hm44⟩
end
theorem at_int {α : Type} {xs : List α} {d : Int} (d0 : 0 ≤ d) (d1 : d < xs.length) : ∃ (i : Nat) (x : α), xs[i]? = some x ∧ atI xs d = some x := by
  obtain ⟨n, rfl⟩ := Int.eq_ofNat_of_zero_le d0
  have hlt : n < xs.length := by omega
  exact ⟨n, xs[n], List.getElem?_eq_getElem hlt, atI_nat (List.getElem?_eq_getElem hlt)⟩
theorem But.trans {st l : Addr} {H H1 H2 : Hp} (a : But st l H H1) (b : But st l H1 H2) : But st l H H2 := fun c o h n1 n2 => b c o (a c o h n1 n2) n1 n2
theorem But.same {st l : Addr} {H H1 : Hp} (a : Same H H1) : But st l H H1 := fun c o h _ _ => a c o h
theorem Strm.up {H H' : Hp} {st l : Addr} {c : Nat} (S : Strm H st l c) (e : Same H H') : Strm H' st l c := by
  obtain ⟨ns, a, m, ⟨h1, h2⟩, r⟩ := S.ex
  exact ⟨ns, a, m, ⟨e _ _ h1, e _ _ h2⟩, r⟩
theorem same_new {H : Hp} {p : Addr} {o : HO} (h : H p = none) : Same H (upd H p o) := fun a u e => by
  rw [upd_ne (ne_of_none e h)]
  exact e
theorem Strm.ne_new {H : Hp} {st l p : Addr} {c : Nat} (S : Strm H st l c) (h : H p = none) : p ≠ st ∧ p ≠ l := by
  obtain ⟨ns, a, m, ⟨h1, h2⟩, r⟩ := S.ex
  exact ⟨(ne_of_none h1 h).symm, (ne_of_none h2 h).symm⟩
theorem But.put {st l p : Addr} {H H' : Hp} {o : HO} (a : But st l H H') (h : H p = none) : But st l H (upd H' p o) := fun c u e n1 n2 => by
  rw [upd_ne (ne_of_none e h)]
  exact a c u e n1 n2
theorem Strm.put {H : Hp} {st l p : Addr} {c : Nat} {o : HO} (S : Strm H st l c) (n : p ≠ st ∧ p ≠ l) : Strm (upd H p o) st l c := by
  obtain ⟨ns, a, m, ⟨h1, h2⟩, r⟩ := S.ex
  exact ⟨ns, a, m, ⟨by rw [upd_ne n.1.symm]; exact h1, by rw [upd_ne n.2.symm]; exact h2⟩, r⟩
def spPickL : Sp := fun vs H Q _ => ∃ (st l : Addr) (c : Nat) (p : Addr) (xs : List V), vs = [.ref st, .ref p] ∧ Strm H st l c ∧ c ≤ 1000000 ∧ H p = some (.lst xs) ∧ p ≠ st ∧ p ≠ l ∧ 0 < xs.length ∧ xs.length < 1000 ∧
  ∀ (i : Nat) (x : V) (H' : Hp), xs[i]? = some x → But st l H H' → Strm H' st l (c + 1) → Q x H'
def spPickS : Sp := fun vs H Q _ => ∃ (st l : Addr) (c : Nat) (z : Str), vs = [.ref st, .str z] ∧ Strm H st l c ∧ c ≤ 1000000 ∧ 0 < z.length ∧ z.length < 1000 ∧
  ∀ (ch : Nat) (H' : Hp), ch ∈ z.cps.toList → But st l H H' → Strm H' st l (c + 1) → Q (.str ⟨#[ch]⟩) H'
def spPick : Sp := fun vs H Q E => spPickL vs H Q E ∨ spPickS vs H Q E
structure TG1 (K : PySem.W.Frag) (mg : Str → Option Value) (fD : Addr) (fdD : FuncData) : Prop where
  int : mg "int" = none
  len : mg "len" = none
  range : mg "range" = none
  list : mg "list" = none
  mD : mg "_law_draw" = some (.ref fD)
  kD : PySem.W.keepIn K (.ref fD) = true
  bD : L2.Binds K fdD ["_law_stream", "_law_many"] []
section
variable {P : Program} {w : World} {K : PySem.W.Frag} {mg : Str → Option Value} {base : Heap} {fD : Addr} {fdD : FuncData}
theorem scP : FnScope ["_law_stream", "_law_things"] ["_law_stream", "_law_things"] (defScope sPick) := ⟨rfl, rfl, rfl, by decide +kernel, rfl, by decide +kernel, by decide +kernel⟩
theorem ok_pick {f : Addr} {fd : FuncData} (F : Fun K "_law_pick" "_law_pick" sPick f fd) (T : TG1 K mg fD fdD) (GD : FnOk P w K mg base CX0 1 fD fdD ["_law_stream", "_law_many"] spDraw) : FnOk P w K mg base CX0 2 f fd ["_law_stream", "_law_things"] spPick := by
  refine F.ok scP (fun vs H Q E h => ?_) (fun cdv A outer s H vs Q E hr h => ?_)
  · rcases h with ⟨st, l, c, p, xs, rfl, _⟩ | ⟨st, l, c, z, rfl, _⟩
    · rfl
    · rfl
  · rcases h with ⟨st, l, c, p, xs, rfl, S, hc, hp, n1, n2, h0, h1, k⟩ | ⟨st, l, c, z, rfl, S, hc, h0, h1, k⟩
    · refine ⟨_, pss_one (ps_ret (pe_ix ix_list (pv 1) (pe_call GD hr rfl T.mD T.kD T.bD .nil pass0 (pa_cons (pv 0) (pa_cons (pe_callB call_len_seq (by rfl) T.len PySem.boot_len (pa_cons (pv 1) pa_nil)) pa_nil))) (fun _ _ => rfl))), ?_⟩
      refine ⟨_, rfl, _, rfl, _, rfl, p, xs, rfl, .inl (SqL.of hp), st, l, c, _, rfl, S, hc, by omega, by omega, fun d H' d0 d1 B S' => ?_⟩
      have hp' := B _ _ hp n1 n2
      obtain ⟨i, x, hx, ha⟩ := at_int d0 d1
      exact ⟨p, xs, d, x, rfl, rfl, SqL.of hp', ha, k _ _ _ hx B S'⟩
    · refine ⟨_, pss_one (ps_ret (pe_ix ix_str (pv 1) (pe_call GD hr rfl T.mD T.kD T.bD .nil pass0 (pa_cons (pv 0) (pa_cons (pe_callB call_len_str (by rfl) T.len PySem.boot_len (pa_cons (pv 1) pa_nil)) pa_nil))) (fun _ _ => rfl))), ?_⟩
      have hzs : z.length ≤ sizeLine := Nat.le_of_lt (Nat.lt_of_lt_of_le h1 (by decide))
      refine ⟨_, rfl, _, rfl, _, rfl, z, rfl, hzs, st, l, c, _, rfl, S, hc, by omega, by omega, fun d H' d0 d1 B S' => ?_⟩
      have el : z.cps.toList.length = z.length := by simp [Str.length]
      obtain ⟨i, x, hx, ha⟩ := at_int (xs := z.cps.toList) d0 (by rw [el]; exact d1)
      exact ⟨z, d, x, rfl, rfl, hzs, ha, k _ _ (List.mem_of_getElem? hx) B S'⟩
end
end K3

set_option maxHeartbeats 3900000
namespace RP
open PySem PySem.Spec PyProof.Rows L2
def kD : Key → PyData
  | .inl i => .int i
  | .inr x => .str x
mutual
/-- what the value v is, read off the tracked heap -/
inductive Dq (K : PySem.W.Frag) (H : Hp) : V → PyData → Prop
  | non : Dq K H .non .none
  | bl (b : Bool) : Dq K H (.bl b) (.bool b)
  | int (i : Int) : Dq K H (.int i) (.int i)
  | str (x : Str) : Dq K H (.str x) (.str x)
  | lst {a : Addr} {xs : List V} {ds : List PyData} : H a = some (.lst xs) → DqAll K H xs ds → Dq K H (.ref a) (.list ds)
  | tup {a : Addr} {xs : List V} {ds : List PyData} : H a = some (.tup xs) → DqAll K H xs ds → Dq K H (.ref a) (.tuple ds)
  | dct {a : Addr} {kvs : List (Key × V)} {ds : List PyData} : H a = some (.dK kvs) → DqAll K H (kvs.map (·.2)) ds → Dq K H (.ref a) (.dict ((kvs.map fun p => kD p.1).zip ds))
inductive DqAll (K : PySem.W.Frag) (H : Hp) : List V → List PyData → Prop
  | nil : DqAll K H [] []
  | cons {v : V} {vs : List V} {d : PyData} {ds : List PyData} : Dq K H v d → DqAll K H vs ds → DqAll K H (v :: vs) (d :: ds)
end
mutual
theorem Dq.up {K : PySem.W.Frag} {H H' : Hp} (e : ∀ a o, H a = some o → H' a = some o) : ∀ {v : V} {d : PyData}, Dq K H v d → Dq K H' v d
  | _, _, .non => .non
  | _, _, .bl b => .bl b
  | _, _, .int i => .int i
  | _, _, .str x => .str x
  | _, _, .lst h t => .lst (e _ _ h) (DqAll.up e t)
  | _, _, .tup h t => .tup (e _ _ h) (DqAll.up e t)
  | _, _, .dct h t => .dct (e _ _ h) (DqAll.up e t)
theorem DqAll.up {K : PySem.W.Frag} {H H' : Hp} (e : ∀ a o, H a = some o → H' a = some o) : ∀ {vs : List V} {ds : List PyData}, DqAll K H vs ds → DqAll K H' vs ds
  | _, _, .nil => .nil
  | _, _, .cons h t => .cons (Dq.up e h) (DqAll.up e t)
end
theorem DqAll.length {K : PySem.W.Frag} {H : Hp} : ∀ {vs : List V} {ds : List PyData}, DqAll K H vs ds → vs.length = ds.length
  | _, _, .nil => rfl
  | _, _, .cons _ t => congrArg Nat.succ t.length
section
variable {X : Cx} {pins : List (Addr × Obj)} {σ : L2.St} {H : Hp} {s : Shared}
theorem not_sys (I : Inv X pins σ H s) (SM : (X.base.get? sysModules).isSome = true) {a : Addr} {o : HO} (h : H a = some o) : a ≠ sysModules := fun z => by
  obtain ⟨u, hu⟩ := Option.isSome_iff_exists.mp SM
  have := (I.bs _ _ hu).2
  rw [← z, h] at this
  cases this
theorem keys_read {P : Program} {w : World} {h : Heap} : ∀ {es : List DictEntry} {kvs : List (Key × V)} {vs : List (Key × Value)}, Pairs (mixKind P w) es vs → KV kvs vs → ReadsAll h (es.map (·.key)) (kvs.map fun p => kD p.1) []
  | _, _, _, .nil, .nil => .nil
  | _, _, _, .cons (e := e) (kv := kv) k1 _ t, .cons r q => by
    have ih := keys_read (h := h) t q
    obtain ⟨e1, _⟩ := r
    rw [List.map_cons, List.map_cons, e1]
    have k1' : keyIs kv.1 e.key = true := k1
    rcases keyIs_shape k1' with ⟨i, t, hk, hv⟩ | ⟨x, t, hk, hv⟩
    · rw [hk, hv]
      exact .cons (.int i t) ih
    · rw [hk, hv]
      exact .cons (.str x t) ih
theorem vals_read {P : Program} {w : World} : ∀ {es : List DictEntry} {kvs : List (Key × V)} {vs : List (Key × Value)}, Pairs (mixKind P w) es vs → KV kvs vs → Vals (kvs.map (·.2)) (es.map (·.val))
  | _, _, _, .nil, .nil => .nil
  | _, _, _, .cons _ k2 t, .cons r q => by
    have ih := vals_read t q
    obtain ⟨_, e2⟩ := r
    rw [List.map_cons, List.map_cons, k2]
    exact .cons e2 ih
mutual
theorem Dq.reads (I : Inv X pins σ H s) (SM : (X.base.get? sysModules).isSome = true) : ∀ {v : V} {d : PyData} {u : Value}, Dq X.K H v d → RelV v u → ∃ as, Reads s.heap u d as ∧ sysModules ∉ as
  | _, _, _, .non, r => by
    cases r
    exact ⟨_, Reads.none, by simp⟩
  | _, _, _, .bl b, r => by
    cases r
    exact ⟨_, Reads.bool b, by simp⟩
  | _, _, _, .int i, r => by
    obtain ⟨t, rfl⟩ := r
    exact ⟨_, Reads.int i t, by simp⟩
  | _, _, _, .str x, r => by
    obtain ⟨t, rfl⟩ := r
    exact ⟨_, Reads.str x t, by simp⟩
  | _, _, _, .lst (a := a) h ha, r => by
    cases r
    obtain ⟨_, its, n, rv, ho⟩ := (show ObjOk X.prog X.w H s.heap a (.lst _) from I.hok a _ h)
    obtain ⟨as, hr, hn⟩ := DqAll.reads I SM ha rv
    exact ⟨_, Reads.list ho rfl rfl hr, by
      intro z
      rcases List.mem_cons.mp z with z | z
      · exact not_sys I SM h z.symm
      · exact hn z⟩
  | _, _, _, .tup (a := a) h ha, r => by
    cases r
    obtain ⟨_, its, rv, o, ho, hc, n, hd⟩ := (show ObjOk X.prog X.w H s.heap a (.tup _) from I.hok a _ h)
    obtain ⟨as, hr, hn⟩ := DqAll.reads I SM ha rv
    exact ⟨_, Reads.tuple ho hc hd hr, hn⟩
  | _, _, _, .dct (a := a) (kvs := kvs) (ds := ds) h ha, r => by
    cases r
    obtain ⟨_, _, vs, rel, o, es, ep, ho, ex, hd, _, pr, _⟩ := (show ObjOk X.prog X.w H s.heap a (.dK kvs) from I.hok a _ h)
    obtain ⟨bs, hr, hn⟩ := DqAll.reads I SM ha (vals_read pr rel)
    have le : (kvs.map fun p => kD p.1).length = ds.length := by
      have := ha.length
      rw [List.length_map] at this ⊢
      exact this
    refine ⟨_, Reads.dict ho ex.1 hd (as := []) (bs := bs) ?_ ?_, ?_⟩
    · rw [List.map_fst_zip (by omega)]
      exact keys_read pr rel
    · rw [List.map_snd_zip (by omega)]
      exact hr
    · intro z
      rcases List.mem_cons.mp z with z | z
      · exact not_sys I SM h z.symm
      · exact hn z
theorem DqAll.reads (I : Inv X pins σ H s) (SM : (X.base.get? sysModules).isSome = true) : ∀ {vs : List V} {ds : List PyData} {us : List Value}, DqAll X.K H vs ds → Vals vs us → ∃ as, ReadsAll s.heap us ds as ∧ sysModules ∉ as
  | _, _, _, .nil, r => by
    cases r
    exact ⟨_, ReadsAll.nil, by simp⟩
  | _, _, _, .cons h t, r => by
    cases r with
    | cons r1 r2 =>
      obtain ⟨as, q1, n1⟩ := Dq.reads I SM h r1
      obtain ⟨bs, q2, n2⟩ := DqAll.reads I SM t r2
      exact ⟨_, ReadsAll.cons q1 q2, by
        intro z
        rcases List.mem_append.mp z with z | z
        · exact n1 z
        · exact n2 z⟩
end
def rRep (K : PySem.W.Frag) : List V → Hp → VK → Prop := fun xs H Q => ∃ (v : V) (d : PyData), xs = [v] ∧ Dq K H v d ∧ d.showable = true ∧ d.depth ≤ 20 ∧ d.shown.length ≤ sizeLine ∧ Q (.str d.shown) H
theorem call_repr (SM : (X.base.get? sysModules).isSome = true) (hg : X.A.guards = some []) (hu : X.A.units + 64 < cLine) : CallR X (.builtin "repr") (rRep X.K) := by
  intro pins s σ H xs us Q I r h
  obtain ⟨v, d, rfl, hd, sh, dp, sz, q⟩ := h
  cases r with
  | cons rx rr =>
    cases rr
    obtain ⟨as, hr, hn⟩ := hd.reads I SM rx
    have fin : ∀ h' u tk, (∀ b o, s.heap.get? b = some o → h'.get? b = some o) → EP X pins σ Q (.str d.shown u) { s with heap := h', toks := tk } := fun h' u tk k => ⟨.str d.shown, H, I.kept (t' := tk) k, ⟨u, rfl⟩, q⟩
    cases hd with
    | non =>
      cases rx
      exact PySem.P.repr_of_none (fin s.heap _ _ fun _ _ e => e)
    | bl b =>
      cases rx
      exact PySem.P.repr_of_bool (fin s.heap _ _ fun _ _ e => e)
    | int i =>
      obtain ⟨t, rfl⟩ := rx
      exact PySem.P.repr_of_int (of_decide_eq_true sh) (fin s.heap _ _ fun _ _ e => e)
    | str x =>
      obtain ⟨t, rfl⟩ := rx
      exact PySem.P.repr_of_str (fin s.heap _ _ fun _ _ e => e) sz
    | lst h1 h2 =>
      cases rx
      exact PySem.repr_of_reads' hr sh (fun _ => hn) hg (by omega) (fun _ _ e => e) fin sz
    | tup h1 h2 =>
      cases rx
      exact PySem.repr_of_reads' hr sh (fun _ => hn) hg (by omega) (fun _ _ e => e) fin sz
    | dct h1 h2 =>
      cases rx
      exact PySem.repr_of_reads' hr sh (fun _ => hn) hg (by omega) (fun _ _ e => e) fin sz
end
structure FnG (P : Program) (w : World) (K : PySem.W.Frag) (mg : Str → Option Value) (base : Heap) (CX : CXT) (k : Nat) (f : Addr) (fd : FuncData) (ps : List Str) (sp : Sp) : Prop where
  len : ∀ vs H Q E, sp vs H Q E → vs.length = ps.length
  run : ∀ (A : Around) (outer : List Env) (s : Shared) (H : Hp) (args : Args) (us : List Value) (vs : List V) (Q : VK) (E : XK), A.guards = some [] → Room k A → Env0 P w K mg base A outer s H → BindsTo s fd args (ps.zip us) → Vals vs us → sp vs H Q E →
    codeAny (model P w) A (.call (.ref f) args) (CR CX outer P w H s Q E) s
theorem FnG.of {P : Program} {w : World} {K : PySem.W.Frag} {mg : Str → Option Value} {base : Heap} {CX : CXT} {k : Nat} {f : Addr} {fd : FuncData} {ps : List Str} {sp : Sp} (F : FnOk P w K mg base CX k f fd ps sp) : FnG P w K mg base CX k f fd ps sp :=
  ⟨F.len, fun A outer s H args us vs Q E _ hr e0 hb rv q => F.run A outer s H args us vs Q E hr e0 hb rv q⟩
theorem okG {P : Program} {w : World} {K : PySem.W.Frag} {mg : Str → Option Value} {base : Heap} {x qual : Str} {st : Stmt} {f : Addr} {fd : FuncData} {N ps : List Str} {k : Nat} {sp : Sp} (F : Fun K x qual st f fd) (S : FnScope N ps (defScope st))
    (len : ∀ vs H Q E, sp vs H Q E → vs.length = ps.length)
    (body : ∀ (cdv : Value) (A : Around) (outer : List Env) (s : Shared) (H : Hp) (vs : List V) (Q : VK) (E : XK), A.guards = some [] → Room k (A.deeper (envOfC qual (defScope st) s.heap.objs.size f cdv)) → sp vs H Q E →
      ∃ t, PSs (cxOf CX0 P w K mg base N qual (defScope st) f cdv A outer s H E).nox (defBody st) t ∧ t { nx := fun _ H' => Q .non H', rt := Q } (start N vs) H) : FnG P w K mg base CX0 (k + 1) f fd ps sp := by
  obtain ⟨oc, od, kV, doc, pm, an, cdv, ct, osl, rfl, lk, hcd⟩ := F.ex
  refine ⟨len, fun A outer s H args us vs Q E hg hr e0 hb rv q => ?_⟩
  refine LamX.run_ofS lk hcd S hr e0 hb rv (len _ _ _ _ q) fun hr' => ?_
  obtain ⟨t, h1, h2⟩ := body cdv A outer s H vs Q E hg hr' q
  exact ⟨t, h1.nox, h2⟩
section
variable {X : Cx} {CX : CXT} {k : Nat} {f : Addr} {fd : FuncData} {ps : List Str} {sp : Sp} {E : XK} {x : Str} {p pos : Pos} {e : Expr} {es : List Expr} {t : TA}
theorem pe_callG (F : FnG X.prog X.w X.K X.mg X.base CX k f fd ps sp) (hG : X.A.guards = some []) (hr : Room k X.A) (hg : Gl X x) (hm : X.mg x = some (.ref f)) (hk : PySem.W.keepIn X.K (.ref f) = true) (hb : Binds X.K fd ps []) (hx : Passes CX X E)
    (ha : PA X (e :: es) t) (hdb : (x == ("__debug__" : Str)) = false := by decide) (he : starEach (e :: es) X.env = (false, eval e X.env) :: starEach es X.env := by rfl) (hpl : (backTo pos (starEach es X.env)).any (·.1) = false := by rfl) :
    PE X (.Call (.Name x p) (e :: es) [] pos) (tCall sp [] E t) := by
  refine ⟨fun pins s σ H Q I h => ?_⟩
  refine wpAny_Call_Name_kw (ld_glob I hg hm ?_ hdb)
  refine PySem.W.callWith_K (h₀ := X.base) I.ok.mod.kin hk (thn (ha.run pos pins s σ H _ I h) fun us s1 ⟨vs, H1, I1, r, q⟩ => ⟨I1.kIn, ?_⟩) he hpl
  have q : sp vs H1 Q E := by
    have z : sp (vs ++ []) H1 Q E := q
    rw [List.append_nil] at z
    exact z
  have hl : us.length = ps.length := r.length.symm.trans (F.len _ _ _ _ q)
  have hbt := hb s1 us I1.kIn (by rw [List.append_nil]; exact hl)
  rw [List.append_nil] at hbt
  refine wpAny_call (codeAny_mono (F.run X.A X.stack s1 H1 ⟨us, []⟩ us vs Q E hG hr I1.env0 hbt r q) fun r s' hq => ?_)
  cases r with
  | error e => exact hx pins σ H1 s1 e s' I1 hq
  | ok fl =>
    cases fl with
    | ret u => exact I1.after hq
    | next => exact False.elim hq
    | brk => exact False.elim hq
    | cont => exact False.elim hq
end
end RP

set_option maxHeartbeats 3900000
namespace EG
open PySem PySem.Spec PyProof.Rows L2 LamX RP
section
variable {P : Program} {w : World} {K : PySem.W.Frag} {tabs : List Addr} {a : Addr} {ob : Obj} {xs : List V}
def track (K : PySem.W.Frag) (tabs : List Addr) (a : Addr) (ob : Obj) (xs : List V) : Hp := fun b =>
  if b ∈ tabs then some (.tbl #[]) else if b = a ∧ K.lookup a = none then some (.frz ob (.lst xs)) else none
theorem track_cases (b : Addr) : (b ∈ tabs ∧ track K tabs a ob xs b = some (.tbl #[])) ∨ (b ∉ tabs ∧ b = a ∧ K.lookup a = none ∧ track K tabs a ob xs b = some (.frz ob (.lst xs))) ∨
    (b ∉ tabs ∧ (b = a → K.lookup a ≠ none) ∧ track K tabs a ob xs b = none) := by
  unfold track
  by_cases h1 : b ∈ tabs
  · exact .inl ⟨h1, if_pos h1⟩
  · by_cases h2 : b = a ∧ K.lookup a = none
    · exact .inr (.inl ⟨h1, h2.1, h2.2, by rw [if_neg h1, if_pos h2]⟩)
    · exact .inr (.inr ⟨h1, fun e z => h2 ⟨e, z⟩, by rw [if_neg h1, if_neg h2]⟩)
end
theorem end_call {P : Program} {w : World} {K : PySem.W.Frag} {mg mb : Str → Option Value} {k : Nat} {fa a : Addr} {cs : List (Addr × Addr)} {fd : FuncData} {x : Str} {sp : Sp} {s : Shared} {us : List Value} {ns : List Int}
    (kin : K.In s.heap) (gn : s.heap.Ns mainGlobals mg) (bn : s.heap.Ns builtinsNs mb) (bb : ∀ y : Str, y ≠ "__name__" → mb y = bootBuiltins y) (nl : s.heap.NoLimit) (ng : s.gens = #[])
    (tE : ∀ p ∈ cs, s.heap.get? p.2 = some { cls := .none, data := .fields #[] }) (tK : ∀ p ∈ cs, K.lookup p.2 = none) (tC : ∀ p ∈ cs, PySem.W.CodeHd s.heap p.1 p.2)
    (sys : ∃ (o : Obj) (es : Array DictEntry) (n : Nat), s.heap.get? sysModules = some o ∧ o.data = .dict es n)
    (mod : ∃ (m : Addr) (o : Obj), mg "__builtins__" = some (.ref m) ∧ m ≠ builtinsNs ∧ s.heap.get? m = some o ∧ o.cls = .type "module" ∧ o.dict = some builtinsNs ∧ o.data = .plain)
    (ia : s.heap.get? a = some { cls := .type "list", data := .seq us.toArray }) (ii : IntsAre us ns) (il : ns.length ≤ sizeLine) (room : Room k callerA)
    (F : ∀ base : Heap, K.In base → base.Ns mainGlobals mg → (∀ p ∈ cs, TabB base mg p.1 p.2) → (base.get? sysModules).isSome = true → FnG P w K mg base CX0 k fa fd [x] sp) (hb : ∀ (t : Shared) (u : Value), BindsTo t fd ⟨[u], []⟩ [(x, u)])
    (hsp : ∀ H : Hp, (∀ p ∈ cs, H p.2 = some (.tbl #[])) → SqL K H a (ns.map V.int) → sp [.ref a] H (fun v _ => v = .bl true) fun _ _ _ => False) :
    codeAny (model P w) callerA (.call (.ref fa) ⟨[.ref a], []⟩) (fun r t => r = .ok (.ret (.bool true)) ∧ OldK s.heap t.heap ∧ t.os = s.os ∧ AllBare t.gens) s := by
  have rv := vals_ints ii
  have tE' : ∀ b ∈ cs.map (·.2), s.heap.get? b = some { cls := .none, data := .fields #[] } := fun b hb => by
    obtain ⟨p, hp, rfl⟩ := List.mem_map.mp hb
    exact tE p hp
  generalize hob : ({ cls := .type "list", data := .seq us.toArray } : Obj) = ob at ia
  have na : a ∉ cs.map (·.2) := fun z => by
    have q := (tE' a z).symm.trans ia
    rw [← hob] at q
    cases q
  generalize hH : track K (cs.map (·.2)) a ob (ns.map V.int) = H
  have tc := fun b => track_cases (K := K) (tabs := cs.map (·.2)) (a := a) (ob := ob) (xs := ns.map V.int) b
  rw [hH] at tc
  -- what the heap holds is as tracked
  have ok : HOk P w H s.heap := fun b o e => by
    rcases tc b with ⟨h1, h2⟩ | ⟨h1, h2, h3, h4⟩ | ⟨_, _, h4⟩
    · rw [h2] at e
      cases e
      exact tE' b h1
    · rw [h4] at e
      cases e
      subst h2
      exact ⟨ia, by rw [List.length_map]; exact il, us, _, rv, ia.trans (congrArg some hob.symm)⟩
    · rw [h4] at e
      cases e
  -- other objects are not tracked
  have free : ∀ {b : Addr} {o : Obj}, s.heap.get? b = some o → o ≠ ob → o.data ≠ .fields #[] → H b = none := fun {b o} e d1 d2 => by
    rcases tc b with ⟨h1, _⟩ | ⟨_, h2, _, _⟩ | ⟨_, _, h4⟩
    · rw [tE' b h1] at e
      cases e
      exact (d2 rfl).elim
    · rw [h2, ia] at e
      exact (d1 (Option.some.inj e).symm).elim
    · exact h4
  have down : ∀ {b : Addr} {o : Obj}, s.heap.get? b = some o → o ≠ ob → o.data ≠ .fields #[] → (hidT s.heap H).get? b = some o := fun e d1 d2 => hidT_get e (free e d1 d2)
  have dict : ∀ {b : Addr} {m : Str → Option Value}, s.heap.Ns b m → (hidT s.heap H).Ns b m := fun {b m} ⟨o, es, ep, e, d, r⟩ =>
    ⟨o, es, ep, down e (fun z => by rw [z, ← hob] at d; cases d) (fun z => by rw [d] at z; cases z), d, r⟩
  have kB : K.In (hidT s.heap H) := fun b o e => hidT_get (kin b o e) (by
    rcases tc b with ⟨h1, _⟩ | ⟨_, h2, h3, _⟩ | ⟨_, _, h4⟩
    · obtain ⟨p, hp, rfl⟩ := List.mem_map.mp h1
      rw [tK p hp] at e
      cases e
    · rw [h2, h3] at e
      cases e
    · exact h4)
  have tabB : ∀ p ∈ cs, TabB (hidT s.heap H) mg p.1 p.2 := fun p hp => by
    obtain ⟨m, o, m1, m2, m3, m4, m5, m6⟩ := mod
    have dm : m ≠ mainGlobals := fun z => by
      obtain ⟨o', es, ep, e, d, _⟩ := gn
      rw [z, e] at m3
      cases m3
      rw [d] at m6
      cases m6
    have dp : m ≠ p.2 := fun z => by
      rw [z, tE p hp] at m3
      cases m3
      cases m6
    obtain ⟨oc, vs, file, tf, fl, tg, inF, tx, tt, c1, c2, c3, c4, cr⟩ := tC p hp
    have cne : oc ≠ ob := fun z => by
      rw [z, ← hob] at c3
      cases c3
    have cnf : oc.data ≠ .fields #[] := fun z => by
      rw [c3] at z
      cases z
      simp at c4
    have mne : o ≠ ob := fun z => by
      rw [z, ← hob] at m6
      cases m6
    have mnf : o.data ≠ .fields #[] := fun z => by
      rw [m6] at z
      cases z
    refine ⟨⟨oc, vs, file, tf, fl, tg, inF, tx, tt, down c1 cne cnf, c2, c3, c4, cr⟩, ⟨m, o, m1, m2, dm, dp, down m3 mne mnf, m4, m5, m6⟩, fun z => ?_⟩
    obtain ⟨o', es, ep, e, d, _⟩ := gn
    rw [z, tE p hp] at e
    cases e
    cases d
  have sysB : ((hidT s.heap H).get? sysModules).isSome = true := by
    obtain ⟨o, es, n, h1, h2⟩ := sys
    have q := down h1 (fun z => by rw [z, ← hob] at h2; cases h2) (fun z => by rw [h2] at z; cases z)
    rw [q]
    rfl
  have e0 : Env0 P w K mg (hidT s.heap H) callerA [] s H :=
    ⟨rfl, ⟨kB, dict gn, ⟨mb, dict bn, bb⟩, let ⟨mc, l1, l2⟩ := nl; ⟨mc, dict l1, l2⟩⟩, fun b o e => of_hidT e, Nat.le_of_eq (hidT_size _ _), trivial, fun b z => absurd (show b ∈ ([] : List Addr) from z) (by simp), ok, .of_eq ng⟩
  have seq : SqL K H a (ns.map V.int) := by
    rcases tc a with ⟨h1, _⟩ | ⟨_, _, _, h4⟩ | ⟨_, h3, _⟩
    · exact (na h1).elim
    · exact .inl (.inr ⟨ob, h4⟩)
    · cases q : K.lookup a with
      | none => exact (h3 rfl q).elim
      | some o =>
        have z := kin a o q
        rw [ia] at z
        cases z
        rw [← hob] at q
        exact .inr ⟨_, us.toArray, _, q, rfl, rfl, rfl, by rw [List.size_toArray, ii.length]; exact il, by simpa using rv⟩
  have tabs : ∀ p ∈ cs, H p.2 = some (.tbl #[]) := fun p hp => by
    have hm : p.2 ∈ cs.map (·.2) := List.mem_map.mpr ⟨p, hp, rfl⟩
    rcases tc p.2 with ⟨_, h2⟩ | ⟨h1, _⟩ | ⟨h1, _⟩
    · exact h2
    · exact (h1 hm).elim
    · exact (h1 hm).elim
  refine codeAny_mono ((F _ kB (dict gn) tabB sysB).run callerA [] s H ⟨[.ref a], []⟩ [.ref a] [.ref a] _ _ rfl room e0 (hb s (.ref a)) (.cons rfl .nil) (hsp H tabs seq)) fun r t h => ?_
  cases r with
  | error e => exact (show False from h).elim
  | ok fl =>
    cases fl with
    | next => exact False.elim h
    | brk => exact False.elim h
    | cont => exact False.elim h
    | ret u =>
      obtain ⟨v, H', os, bare, un, ok', r', q⟩ := h
      have q' : v = .bl true := q
      subst q'
      obtain rfl : u = Value.bool true := r'
      have old : ∀ b o, b ∉ cs.map (·.2) → s.heap.get? b = some o → t.heap.get? b = some o := fun b o nb e => by
        rcases tc b with ⟨h1, _⟩ | ⟨_, h2, h3, h4⟩ | ⟨_, _, h4⟩
        · exact (nb h1).elim
        · have z := un.frzs b _ _ h4
          obtain ⟨e2, _⟩ := ok' b _ z
          rw [h2, ia] at e
          cases e
          exact e2
        · exact un.keep b o e h4 (fun z => absurd (show b ∈ ([] : List Addr) from z) (by simp)) (by simp)
      have more : ∀ p ∈ cs, ∃ m : Array Value, t.heap.get? p.2 = some { cls := .none, data := .fields m } := fun p hp => by
        obtain ⟨m, z⟩ := un.tbls p.2 #[] (tabs p hp)
        exact ⟨_, ok' p.2 _ z⟩
      refine ⟨rfl, ⟨fun b o e => ?_, fun b o e => ?_⟩, os, bare⟩
      · by_cases z : b ∈ cs.map (·.2)
        · obtain ⟨p, hp, rfl⟩ := List.mem_map.mp z
          obtain ⟨m, hm⟩ := more p hp
          rw [tE p hp] at e
          cases e
          exact .inr (.inl ⟨((tC p hp).tab (tE p hp)).isCodeTable, rfl, #[], m, rfl, by rw [Array.empty_append]; exact hm⟩)
        · exact .inl (old b o z e)
      · by_cases z : b ∈ cs.map (·.2)
        · obtain ⟨p, hp, rfl⟩ := List.mem_map.mp z
          obtain ⟨m, hm⟩ := more p hp
          exact ⟨_, hm⟩
        · exact ⟨o, old b o z e⟩
theorem walkG {l : PySem.W.OpenLaw} {n k : Nat} {q : Program} {loose : List Str} {XP : (Str → Option Value) → Heap → Prop} {YP : World → Heap → Prop} {d : DefRec} {x : Str}
    (hn : l.most = some n) (hn2 : n ≤ sizeLine) (hdf : d.params.defaults = []) (room : Room k callerA)
    (F : ∀ (w : World) (mg : Str → Option Value) (fa : Addr) (h : Heap), YP w h → h.Ns mainGlobals mg → mg d.name = some (.ref fa) →
      ∃ (K : PySem.W.Frag) (cs : List (Addr × Addr)) (fd : FuncData) (sp : Sp), K.In h ∧ (∀ p ∈ cs, h.get? p.2 = some { cls := .none, data := .fields #[] }) ∧ (∀ p ∈ cs, K.lookup p.2 = none) ∧ (∀ p ∈ cs, PySem.W.CodeHd h p.1 p.2) ∧ (∃ (o : Obj) (es : Array DictEntry) (n : Nat), h.get? sysModules = some o ∧ o.data = .dict es n) ∧
        (∀ (s : Shared) (u : Value), BindsTo s fd ⟨[u], []⟩ [(x, u)]) ∧
        (∀ (H : Hp) (a : Addr) (ns : List Int), ns.length ≤ n → (∀ z ∈ ns, Builtin.Int.intBits z ≤ 1048576) → (∀ p ∈ cs, H p.2 = some (.tbl #[])) → SqL K H a (ns.map V.int) → sp [.ref a] H (fun v _ => v = .bl true) fun _ _ _ => False) ∧
        ∀ base : Heap, K.In base → base.Ns mainGlobals mg → (∀ p ∈ cs, TabB base mg p.1 p.2) → (base.get? sysModules).isSome = true → FnG l.prog w K mg base CX0 k fa fd [x] sp) :
    PySem.W.WalkO q loose XP YP l.row.toRowW d [] (fun f vs => PySem.call f vs) := by
  refine Att.attach_callB hn hdf fun w s₀ s mg mb fa o pm cd doc a vs ns G Y ho hd hcd hmg hobj hints hlen hbits hg => ?_
  obtain ⟨K, cs, fd, sp, KX, h1, h2, h3, h4, hb, hsp, hF⟩ := F w mg fa _ Y G.T.g hmg
  exact end_call KX G.T.g G.T.b G.T.builtins G.T.nolimit hg h1 h2 h3 h4 G.T.bmain hobj hints (Nat.le_trans hlen hn2) room hF hb fun H => hsp H a ns hlen hbits
end EG

set_option maxHeartbeats 3900000
namespace CB
open PySem PySem.Spec PyProof.Rows L2
theorem same_mk {H : Hp} {p : Addr} {o : HO} (h : H p = none) : Same H (upd H p o) := fun a u e => by
  rw [upd_ne (ne_of_none e h)]
  exact e
theorem same_ch {H H' : Hp} {p : Addr} {o : HO} (a : Same H H') (h : H p = none) : Same H (upd H' p o) := fun c u e => by
  rw [upd_ne (ne_of_none e h)]
  exact a c u e
section
variable {J : It} {n : Nat} {G : Hp → Prop} {Y : Nat → Hp → V → Hp → Prop} {j : Nat} {te : TE} {σ : L2.St} {H1 : Hp} {D : Addr} {Qd : Hp → Prop}
theorem wipe1 (x : V) : wipe ((wipe σ [j]).set j (some x)) [j] = wipe σ [j] := by
  show ((σ.set j none).set j (some x)).set j none = σ.set j none
  simp
theorem lcW (w : Walk J n G Y) (ys : List V) (hn : ys.length = n) (hs : n < 1000000) (hD : H1 D = none) (hG : ∀ H', Same H1 H' → G H')
    (turn : ∀ (i : Nat) (x y : V) (H2 H3 : Hp), ys[i]? = some y → Same H1 H2 → Y i H2 x H3 → ∀ Q1 : VK, (∀ H4, Same H2 H4 → Q1 y H4) → te ((wipe σ [j]).set j (some x)) H3 Q1)
    (hd : ∀ H', Same H1 H' → H' D = some (.lst ys) → Qd H') :
    ∃ W : Nat → Nat → Hp → Prop, (∃ m, W 0 m (upd H1 D (.lst []))) ∧ ∀ i m H, W i m H →
      (J.stop i H ∧ Qd H) ∨ (J.go i H ∧ ∃ Nx : Hp → Prop, (∀ H', Nx H' → ∃ m', m' < m ∧ W (i + 1) m' H') ∧ ∀ x H', J.yld i H x H' → gName j x (wipe σ [j]) H' fun σ2 H2 => wipe σ2 [j] = wipe σ [j] ∧ tYes σ2 H2 fun b H3 =>
        if b = true then te σ2 H3 fun y H4 => ∃ acc, H4 D = some (.lst acc) ∧ acc.length < sizeLine ∧ Nx (upd H4 D (.lst (acc ++ [y]))) else Nx H3) := by
  subst hn
  refine lc_it w (fun i H' => Same H1 H' ∧ H' D = some (.lst (ys.take i))) ⟨same_mk hD, upd_same⟩ (fun i H' _ q => hG H' q.1) ?_ ?_
  · rintro i x H2 H3 hi ⟨s2, hd2⟩ y
    have hy : ys[i]? = some ys[i] := List.getElem?_eq_getElem hi
    refine ⟨wipe1 x, ?_⟩
    refine turn i x ys[i] H2 H3 hy s2 y _ fun H4 s4 => ⟨_, s4 _ _ hd2, ?_, same_ch (s2.trans s4) hD, ?_⟩
    · rw [List.length_take]
      exact Nat.lt_of_lt_of_le (show min i ys.length < 1000000 by omega) (by decide)
    · rw [upd_same, List.take_succ, hy]
      rfl
  · rintro H' ⟨s, h⟩
    rw [List.take_length] at h
    exact hd H' s h
end
section
variable {K : PySem.W.Frag} {α : Type} {j : Nat} {te : TE} {σ : L2.St} {H1 : Hp} {D a : Addr} {Qd : Hp → Prop}
theorem map_two {α : Type} {zs : List α} {u g : α → V} {i : Nat} {x y : V} (hx : (zs.map u)[i]? = some x) (hy : (zs.map g)[i]? = some y) : ∃ z ∈ zs, x = u z ∧ y = g z := by
  rw [List.getElem?_map] at hx hy
  match e : zs[i]? with
  | none =>
    rw [e] at hx
    cases hx
  | some z =>
    rw [e] at hx hy
    cases hx
    cases hy
    exact ⟨z, List.mem_of_getElem? e, rfl, rfl⟩
theorem lc_mapL (zs : List α) (u g : α → V) (hs : zs.length < 1000000) (hD : H1 D = none) (ha : SqL K H1 a (zs.map u))
    (turn : ∀ z ∈ zs, ∀ H2, Same H1 H2 → ∀ Q1 : VK, (∀ H4, Same H2 H4 → Q1 (g z) H4) → te ((wipe σ [j]).set j (some (u z))) H2 Q1) (hd : ∀ H', Same H1 H' → H' D = some (.lst (zs.map g)) → Qd H') :
    ∃ W : Nat → Nat → Hp → Prop, (∃ m, W 0 m (upd H1 D (.lst []))) ∧ ∀ i m H, W i m H →
      ((Itl K a).stop i H ∧ Qd H) ∨ ((Itl K a).go i H ∧ ∃ Nx : Hp → Prop, (∀ H', Nx H' → ∃ m', m' < m ∧ W (i + 1) m' H') ∧ ∀ x H', (Itl K a).yld i H x H' → gName j x (wipe σ [j]) H' fun σ2 H2 => wipe σ2 [j] = wipe σ [j] ∧ tYes σ2 H2 fun b H3 =>
        if b = true then te σ2 H3 fun y H4 => ∃ acc, H4 D = some (.lst acc) ∧ acc.length < sizeLine ∧ Nx (upd H4 D (.lst (acc ++ [y]))) else Nx H3) := by
  refine lcW (walk_list (K := K) (a := a) (xs := zs.map u)) (zs.map g) (by rw [List.length_map, List.length_map]) (by rw [List.length_map]; exact hs) hD (fun H' s => s.seq ha) ?_ hd
  rintro i x y H2 H3 hy s ⟨rfl, hx⟩ Q1 k
  obtain ⟨z, hz, rfl, rfl⟩ := map_two hx hy
  exact turn z hz _ s Q1 k
theorem sameT {H H' : Hp} {xs : List V} (e : Same H H') (h : SqT K H a xs) : SqT K H' a xs := by
  rcases h with (h | ⟨o, h⟩) | h
  · exact .inl (.inl (e _ _ h))
  · exact .inl (.inr ⟨o, e _ _ h⟩)
  · exact .inr h
theorem lc_mapT (zs : List α) (u g : α → V) (hs : zs.length < 1000000) (hD : H1 D = none) (ha : SqT K H1 a (zs.map u))
    (turn : ∀ z ∈ zs, ∀ H2, Same H1 H2 → ∀ Q1 : VK, (∀ H4, Same H2 H4 → Q1 (g z) H4) → te ((wipe σ [j]).set j (some (u z))) H2 Q1) (hd : ∀ H', Same H1 H' → H' D = some (.lst (zs.map g)) → Qd H') :
    ∃ W : Nat → Nat → Hp → Prop, (∃ m, W 0 m (upd H1 D (.lst []))) ∧ ∀ i m H, W i m H →
      ((Itt K a).stop i H ∧ Qd H) ∨ ((Itt K a).go i H ∧ ∃ Nx : Hp → Prop, (∀ H', Nx H' → ∃ m', m' < m ∧ W (i + 1) m' H') ∧ ∀ x H', (Itt K a).yld i H x H' → gName j x (wipe σ [j]) H' fun σ2 H2 => wipe σ2 [j] = wipe σ [j] ∧ tYes σ2 H2 fun b H3 =>
        if b = true then te σ2 H3 fun y H4 => ∃ acc, H4 D = some (.lst acc) ∧ acc.length < sizeLine ∧ Nx (upd H4 D (.lst (acc ++ [y]))) else Nx H3) := by
  refine lcW (walk_tup (K := K) (a := a) (xs := zs.map u)) (zs.map g) (by rw [List.length_map, List.length_map]) (by rw [List.length_map]; exact hs) hD (fun H' s => sameT s ha) ?_ hd
  rintro i x y H2 H3 hy s ⟨rfl, hx⟩ Q1 k
  obtain ⟨z, hz, rfl, rfl⟩ := map_two hx hy
  exact turn z hz _ s Q1 k
theorem lc_mapS (z : Str) (g : Nat → V) (hs : z.length < 1000000) (hD : H1 D = none)
    (turn : ∀ c ∈ z.cps.toList, ∀ H2, Same H1 H2 → ∀ Q1 : VK, (∀ H4, Same H2 H4 → Q1 (g c) H4) → te ((wipe σ [j]).set j (some (.str ⟨#[c]⟩))) H2 Q1) (hd : ∀ H', Same H1 H' → H' D = some (.lst (z.cps.toList.map g)) → Qd H') :
    ∃ W : Nat → Nat → Hp → Prop, (∃ m, W 0 m (upd H1 D (.lst []))) ∧ ∀ i m H, W i m H →
      ((Its z).stop i H ∧ Qd H) ∨ ((Its z).go i H ∧ ∃ Nx : Hp → Prop, (∀ H', Nx H' → ∃ m', m' < m ∧ W (i + 1) m' H') ∧ ∀ x H', (Its z).yld i H x H' → gName j x (wipe σ [j]) H' fun σ2 H2 => wipe σ2 [j] = wipe σ [j] ∧ tYes σ2 H2 fun b H3 =>
        if b = true then te σ2 H3 fun y H4 => ∃ acc, H4 D = some (.lst acc) ∧ acc.length < sizeLine ∧ Nx (upd H4 D (.lst (acc ++ [y]))) else Nx H3) := by
  refine lcW (walk_str (z := z)) (z.cps.toList.map g) (by rw [List.length_map, Array.length_toList]) hs hD (fun _ _ => trivial) ?_ hd
  rintro i x y H2 H3 hy s ⟨rfl, c, hc, rfl⟩ Q1 k
  rw [List.getElem?_map, Array.getElem?_toList, hc] at hy
  cases hy
  exact turn c (by rw [Array.mem_toList_iff]; exact Array.mem_of_getElem? hc) _ s Q1 k
theorem all_of {H : Hp} {Q : VK} (zs : List α) (f : α → Bool) (h : H D = some (.lst (zs.map fun z => .bl (f z)))) (q : Q (.bl (zs.all f)) H) : rAll K [.ref D] H Q :=
  ⟨D, zs.map f, rfl, SqL.of (by rw [h, List.map_map]; rfl), by rw [List.all_map]; exact q⟩
theorem any_of {H : Hp} {Q : VK} (zs : List α) (f : α → Bool) (h : H D = some (.lst (zs.map fun z => .bl (f z)))) (q : Q (.bl (zs.any f)) H) : rAny K [.ref D] H Q :=
  ⟨D, zs.map f, rfl, SqL.of (by rw [h, List.map_map]; rfl), by rw [List.any_map]; exact q⟩
end
section
variable {X : Cx} {o e : Expr} {es : List Expr} {to : TE} {t : TA} {name : Str} {apos cpos : Pos} {T id : String} {r : V → List V → Hp → VK → Prop}
theorem pe_bmK (K0 : PySem.W.Frag) (hK : X.K = K0) (pa : PlainAttrs T) (slot : Slot T name id) (hty : typeOf (.builtin id) = pure (.type "method_descriptor")) (hm : MtR X id r) (ho : PE X o to) (ha : PA X (e :: es) t)
    (hb : attributeBase o name X.env (eval o X.env) = eval o X.env := by rfl)
    (hf : ((backTo cpos (starEach (e :: es) X.env)).all (fun x => !x.1) && (backToKw cpos (keywordEach [] X.env)).all (fun x => x.1.isSome) && decide ((e :: es).length + ([] : List Keyword).length + (if ([] : List Keyword).isEmpty then 0 else 1) < 30)) = true := by rfl)
    (hl : (apos.endLine == cpos.line) = true := by rfl) (hs : starEach (e :: es) X.env = (false, eval e X.env) :: starEach es X.env := by rfl) (hp : (backTo cpos (starEach es X.env)).any (·.1) = false := by rfl) :
    PE X (.Call (.Attribute o name apos) (e :: es) [] cpos) (tBM K0 T r to t) := by
  subst hK
  exact pe_bm pa slot hty hm ho ha hb hf hl hs hp
end
section
variable {X : Cx} {K0 : PySem.W.Frag}
theorem pg_tupK {es : List Expr} {k : Nat} {t : TGs} {n : Nat} {pos : Pos} (hK : X.K = K0) (hc : X.calm = true) (h : PGs X es t) (hn : (assignEach es X.env).length = n := by rfl) (hs : (assignEach es X.env).findIdx? (·.1) = none := by rfl) : PG X (.Tuple es k pos) (gTup K0 n t) := by
  subst hK
  exact pg_tup hc h hn hs
theorem ix_tupK (hK : X.K = K0) : IxR X (rIxT K0) := by
  subst hK
  exact ix_tup
theorem in_seqK (hK : X.K = K0) : OpR X (compareOp .In) (rIn K0 false) := by
  subst hK
  exact op_in_seq
end
def RowAt (H : Hp) (v : V) (xs : List V) : Prop := ∃ a, v = .ref a ∧ (H a = some (.tup xs) ∨ H a = some (.lst xs))
theorem RowAt.up {H H' : Hp} {v : V} {xs : List V} (h : RowAt H v xs) (s : Same H H') : RowAt H' v xs := by
  obtain ⟨a, e, h | h⟩ := h
  · exact ⟨a, e, .inl (s _ _ h)⟩
  · exact ⟨a, e, .inr (s _ _ h)⟩
def rIxRow : R2 := fun x y H Q => ∃ xs i v, RowAt H x xs ∧ y = .int i ∧ atI xs i = some v ∧ Q v H
def rLenRow : List V → Hp → VK → Prop := fun vs H Q => ∃ x xs, vs = [x] ∧ RowAt H x xs ∧ Q (.int (xs.length : Int)) H
def LT (H : Hp) (v : V) (b : Bool) : Prop := (b = true ∧ ∃ xs, RowAt H v xs) ∨ (b = false ∧ (v = .non ∨ (∃ z, v = .str z) ∨ (∃ i, v = .int i) ∨ ∃ c, v = .bl c))
def rLT : List V → Hp → VK → Prop := fun vs H Q => ∃ v tp b, vs = [v, .ref tp] ∧ H tp = some (.tup [.ty "list", .ty "tuple"]) ∧ LT H v b ∧ Q (.bl b) H
def rTupRow : List V → Hp → VK → Prop := fun vs H Q => ∃ v xs, vs = [v] ∧ RowAt H v xs ∧ ∀ a H', Same H H' → H' a = some (.tup xs) → Q (.ref a) H'
section
variable {X : Cx}
theorem ix_row : IxR X rIxRow := by
  intro value slice pins s σ H x y v u Q I rx ry h hs
  obtain ⟨xs, i, w, ⟨a, rfl, h1 | h1⟩, rfl, ha, q⟩ := h
  · exact ix_tup (X := X) value slice pins s σ H _ _ v u Q I rx ry ⟨a, xs, i, w, rfl, rfl, SqT.of h1, ha, q⟩ hs
  · exact ix_list (X := X) value slice pins s σ H _ _ v u Q I rx ry ⟨a, xs, i, w, rfl, rfl, SqL.of h1, ha, q⟩ hs
theorem call_len_row : CallR X (.builtin "len") rLenRow := by
  intro pins s σ H xs us Q I r h
  obtain ⟨x, ys, rfl, ⟨a, rfl, h1 | h1⟩, q⟩ := h
  · exact call_len_seq (X := X) pins s σ H _ us Q I r ⟨a, ys, rfl, .inr (SqT.of h1), q⟩
  · exact call_len_seq (X := X) pins s σ H _ us Q I r ⟨a, ys, rfl, .inl (SqL.of h1), q⟩
theorem kitLT {K : PySem.W.Frag} {n : String} {b c : Bool} (h1 : kitB n "list" = some b) (h2 : kitB n "tuple" = some c) : PySem.W.kitAny K (.type n) [.type "list", .type "tuple"] = some (b || c) :=
  kitAny_cons (kit_ty h1) (fun e => by
    subst e
    exact kitAny_cons (kit_ty h2) (fun e2 => by
      subst e2
      exact kitAny_nil) (fun e2 => by
      subst e2
      rfl)) (fun e => by
    subst e
    rfl)
theorem isi_LT : CallR X (.builtin "isinstance") rLT := by
  intro pins s σ H xs us Q I r h
  obtain ⟨v, tp, b, rfl, ht, hl, q⟩ := h
  have go : ∀ (n : String) (c : Bool), TyX X.K H v (.type n) → PySem.W.kitAny X.K (.type n) [.type "list", .type "tuple"] = some c → Q (.bl c) H → wpAny (model X.prog X.w) X.A (call (.builtin "isinstance") us) (EP X pins σ Q) X.xe s := fun n c t k q =>
    call_isiT (X := X) pins s σ H _ us Q I r ⟨v, tp, _, .type n, [.type "list", .type "tuple"], c, rfl, ht, .cons (.ty "list") (.cons (.ty "tuple") .nil), t, k, q⟩
  rcases hl with ⟨rfl, ys, a, rfl, h1 | h1⟩ | ⟨rfl, rfl | ⟨z, rfl⟩ | ⟨i, rfl⟩ | ⟨c, rfl⟩⟩
  · exact go "tuple" true (.base (.tup h1)) (kitLT (b := false) (c := true) (by decide +kernel) (by decide +kernel)) q
  · exact go "list" true (.base (.lst h1)) (kitLT (b := true) (c := false) (by decide +kernel) (by decide +kernel)) q
  · exact go "NoneType" false (.base .non) (kitLT (b := false) (c := false) (by decide +kernel) (by decide +kernel)) q
  · exact go "str" false (.base (.str z)) (kitLT (b := false) (c := false) (by decide +kernel) (by decide +kernel)) q
  · exact go "int" false (.base (.int i)) (kitLT (b := false) (c := false) (by decide +kernel) (by decide +kernel)) q
  · exact go "bool" false (.base (.bl c)) (kitLT (b := false) (c := false) (by decide +kernel) (by decide +kernel)) q
theorem call_tup_row : CallR X (.type "tuple") rTupRow := by
  intro pins s σ H xs us Q I r h
  obtain ⟨v, ys, rfl, ⟨a, rfl, h1 | h1⟩, q⟩ := h
  · exact call_tuple_of (X := X) pins s σ H _ us Q I r ⟨a, ys, rfl, .inr ⟨SqT.of h1, q a H (Same.refl H) h1⟩⟩
  · exact call_tuple_of (X := X) pins s σ H _ us Q I r ⟨a, ys, rfl, .inl ⟨SqL.of h1, fun l hl => q l _ (same_mk hl) upd_same⟩⟩
def iSeqV (K : PySem.W.Frag) (i : Nat) : TI := fun σ H R => ∃ a, σ[i]? = some (some (.ref a)) ∧ ((∃ xs, SqT K H a xs ∧ R (Itt K a) H) ∨ ∃ xs, SqL K H a xs ∧ R (Itl K a) H)
theorem pi_seqv {tg l : Expr} {i : Nat} (hl : PE X l (tVar i)) : PI X tg l (iSeqV X.K i) := by
  refine ⟨fun pins s σ H R I h => ?_⟩
  obtain ⟨a, ha, ⟨xs, q, r⟩ | ⟨xs, q, r⟩⟩ := h
  · exact (pi_tup hl).run pins s σ H R I ⟨_, ha, a, rfl, ⟨xs, q⟩, r⟩
  · exact (pi_list hl).run pins s σ H R I ⟨_, ha, a, rfl, ⟨xs, q⟩, r⟩
end
section
variable {K : PySem.W.Frag} {α : Type} {i j : Nat} {te : TE} {σ : L2.St} {H : Hp} {v : V} {Q : VK}
theorem lc_row (zs : List α) (u g : α → V) (hi : σ[i]? = some (some v)) (h : RowAt H v (zs.map u)) (hs : zs.length < 1000000)
    (turn : ∀ z ∈ zs, ∀ H2, Same H H2 → ∀ Q1 : VK, (∀ H4, Same H2 H4 → Q1 (g z) H4) → te ((wipe σ [j]).set j (some (u z))) H2 Q1) (hd : ∀ D H', Same H H' → H D = none → H' D = some (.lst (zs.map g)) → Q (.ref D) H') :
    tLc (iSeqV K i) (gName j) tYes te [j] σ H Q := by
  obtain ⟨a, rfl, h1 | h1⟩ := h
  · exact ⟨a, hi, .inl ⟨_, SqT.of h1, fun D hD => lc_mapT zs u g hs hD (SqT.of h1) turn fun H' s h2 => hd D H' s hD h2⟩⟩
  · exact ⟨a, hi, .inr ⟨_, SqL.of h1, fun D hD => lc_mapL zs u g hs hD (SqL.of h1) turn fun H' s h2 => hd D H' s hD h2⟩⟩
theorem all_row (zs : List α) (u : α → V) (f : α → Bool) (hi : σ[i]? = some (some v)) (h : RowAt H v (zs.map u)) (hs : zs.length < 1000000)
    (turn : ∀ z ∈ zs, ∀ H2, Same H H2 → ∀ Q1 : VK, (∀ H4, Same H2 H4 → Q1 (.bl (f z)) H4) → te ((wipe σ [j]).set j (some (u z))) H2 Q1) (hd : ∀ H', Same H H' → Q (.bl (zs.all f)) H') :
    tCB (rAll K) (tCons (tLc (iSeqV K i) (gName j) tYes te [j]) tNil) σ H Q := by
  show tLc (iSeqV K i) (gName j) tYes te [j] σ H fun v H1 => rAll K [v] H1 Q
  exact lc_row zs u (fun z => .bl (f z)) hi h hs turn fun D H' s _ hD => all_of zs f hD (hd H' s)
theorem set_row {y : Nat} {D0 : Ends} (zs : List α) (u g : α → V) (hi : σ[i]? = some (some v)) (h : RowAt H v (zs.map u)) (hs : zs.length < 1000000)
    (turn : ∀ z ∈ zs, ∀ H2, Same H H2 → ∀ Q1 : VK, (∀ H4, Same H2 H4 → Q1 (g z) H4) → te ((wipe σ [j]).set j (some (u z))) H2 Q1) (hd : ∀ D H', Same H H' → H D = none → H' D = some (.lst (zs.map g)) → D0.nx (σ.set y (some (.ref D))) H') :
    tAsg (tLc (iSeqV K i) (gName j) tYes te [j]) (gName y) D0 σ H := by
  show tLc (iSeqV K i) (gName j) tYes te [j] σ H fun x H1 => D0.nx (σ.set y (some x)) H1
  exact lc_row zs u g hi h hs turn hd
theorem iteY {c A B : Prop} [Decidable c] (h : c) (a : A) : if decide c = true then A else B := by
  rw [if_pos (decide_eq_true h)]
  exact a
theorem iteN {c A B : Prop} [Decidable c] (h : ¬ c) (b : B) : if decide c = true then A else B := by
  rw [if_neg (by rw [decide_eq_false h]; exact Bool.false_ne_true)]
  exact b
theorem cut_1 (xs : List V) : cutV xs (some 1) none = xs.drop 1 := by
  show (xs.drop (HT.sIx xs.length 0 (some ((1 : Nat) : Int)))).take (HT.sIx xs.length xs.length none - HT.sIx xs.length 0 (some ((1 : Nat) : Int))) = xs.drop 1
  rw [HT.sIx_nat, HT.sIx_none]
  by_cases h : 1 ≤ xs.length
  · rw [Nat.min_eq_left h, List.take_of_length_le (by rw [List.length_drop]; exact Nat.le_refl _)]
  · rw [List.drop_eq_nil_of_le (by omega), List.drop_eq_nil_of_le (by omega)]
    exact List.take_nil
end
section
variable {J : It} {n : Nat} {G : Hp → Prop} {fx fy : Nat → Option V} {i j : Nat} {te : TE} {σ : L2.St} {H1 : Hp} {D : Addr} {Qd : Hp → Prop} {K : PySem.W.Frag}
theorem wipe2 (hij : i ≠ j) (x y : V) : wipe (((wipe σ [i, j]).set i (some x)).set j (some y)) [i, j] = wipe σ [i, j] := by
  show (((((σ.set j none).set i none).set i (some x)).set j (some y)).set j none).set i none = (σ.set j none).set i none
  rw [List.set_set, List.set_set, List.set_comm _ _ hij, List.set_set, List.set_set]
theorem lcW2 (w : Walk J n G (YPair fx fy)) (hij : i ≠ j) (ys : List V) (hn : ys.length = n) (hs : n < 1000000) (hD : H1 D = none) (hG : ∀ H', Same H1 H' → G H')
    (turn : ∀ (m : Nat) (x x' y : V) (H2 : Hp), ys[m]? = some y → fx m = some x → fy m = some x' → Same H1 H2 → ∀ Q1 : VK, (∀ H4, Same H2 H4 → Q1 y H4) → te (((wipe σ [i, j]).set i (some x)).set j (some x')) H2 Q1)
    (hd : ∀ H', Same H1 H' → H' D = some (.lst ys) → Qd H') :
    ∃ W : Nat → Nat → Hp → Prop, (∃ m, W 0 m (upd H1 D (.lst []))) ∧ ∀ k m H, W k m H →
      (J.stop k H ∧ Qd H) ∨ (J.go k H ∧ ∃ Nx : Hp → Prop, (∀ H', Nx H' → ∃ m', m' < m ∧ W (k + 1) m' H') ∧ ∀ x H', J.yld k H x H' → gTup K 2 (gCons (gName i) (gCons (gName j) gNil)) x (wipe σ [i, j]) H' fun σ2 H2 => wipe σ2 [i, j] = wipe σ [i, j] ∧ tYes σ2 H2 fun b H3 =>
        if b = true then te σ2 H3 fun y H4 => ∃ acc, H4 D = some (.lst acc) ∧ acc.length < sizeLine ∧ Nx (upd H4 D (.lst (acc ++ [y]))) else Nx H3) := by
  subst hn
  refine lc_it w (fun i H' => Same H1 H' ∧ H' D = some (.lst (ys.take i))) ⟨same_mk hD, upd_same⟩ (fun i H' _ q => hG H' q.1) ?_ ?_
  · rintro m x H2 H3 hi ⟨s2, hd2⟩ ⟨T, x1, x2, rfl, hT, rfl, e1, e2⟩
    have hy : ys[m]? = some ys[m] := List.getElem?_eq_getElem hi
    refine ⟨T, _, rfl, SqT.of upd_same, rfl, x1, _, rfl, x2, _, rfl, rfl, wipe2 hij x1 x2, ?_⟩
    have s3 : Same H2 (upd H2 T (.tup [x1, x2])) := same_mk hT
    refine turn m x1 x2 ys[m] _ hy e1 e2 (s2.trans s3) _ fun H4 s4 => ⟨_, s4 _ _ (s3 _ _ hd2), ?_, same_ch ((s2.trans s3).trans s4) hD, ?_⟩
    · rw [List.length_take]
      exact Nat.lt_of_lt_of_le (show min m ys.length < 1000000 by omega) (by decide)
    · rw [upd_same, List.take_succ, hy]
      rfl
  · rintro H' ⟨s, h⟩
    rw [List.take_length] at h
    exact hd H' s h
end
section
variable {J : It} {n : Nat} {G : Hp → Prop} {Y : Nat → Hp → V → Hp → Prop} {j : Nat} {te : TE} {σ : L2.St} {H1 : Hp} {D : Addr} {Qd : Hp → Prop}
def TupS (H H' : Hp) : Prop := ∀ b xs, H b = some (.tup xs) → H' b = some (.tup xs)
theorem TupS.of {H H' : Hp} (s : Same H H') : TupS H H' := fun b xs h => s b _ h
theorem lcR (w : Walk J n G Y) (R : Nat → V → Hp → Prop) (mono : ∀ i y H H', TupS H H' → R i y H → R i y H') (hs : n < 1000000) (hD : H1 D = none) (hG : ∀ H', Same H1 H' → G H')
    (turn : ∀ (i : Nat) (x : V) (H2 H3 : Hp), i < n → Same H1 H2 → Y i H2 x H3 → ∀ Q1 : VK, (∀ y H4, Same H2 H4 → R i y H4 → Q1 y H4) → te ((wipe σ [j]).set j (some x)) H3 Q1)
    (hd : ∀ ys H', ys.length = n → Same H1 H' → H' D = some (.lst ys) → (∀ i y, ys[i]? = some y → R i y H') → Qd H') :
    ∃ W : Nat → Nat → Hp → Prop, (∃ m, W 0 m (upd H1 D (.lst []))) ∧ ∀ i m H, W i m H →
      (J.stop i H ∧ Qd H) ∨ (J.go i H ∧ ∃ Nx : Hp → Prop, (∀ H', Nx H' → ∃ m', m' < m ∧ W (i + 1) m' H') ∧ ∀ x H', J.yld i H x H' → gName j x (wipe σ [j]) H' fun σ2 H2 => wipe σ2 [j] = wipe σ [j] ∧ tYes σ2 H2 fun b H3 =>
        if b = true then te σ2 H3 fun y H4 => ∃ acc, H4 D = some (.lst acc) ∧ acc.length < sizeLine ∧ Nx (upd H4 D (.lst (acc ++ [y]))) else Nx H3) := by
  refine lc_it w (fun i H' => Same H1 H' ∧ ∃ ys, ys.length = i ∧ H' D = some (.lst ys) ∧ ∀ m y, ys[m]? = some y → R m y H') ⟨same_mk hD, [], rfl, upd_same, fun m y h => by cases h⟩ (fun i H' _ q => hG H' q.1) ?_ ?_
  · rintro i x H2 H3 hi ⟨s2, ys, hl, hd2, hr⟩ y
    refine ⟨wipe1 x, ?_⟩
    refine turn i x H2 H3 hi s2 y _ fun v H4 s4 r => ?_
    have hd4 := s4 _ _ hd2
    have up : TupS H4 (upd H4 D (.lst (ys ++ [v]))) := fun b xs h => by
      rw [upd_ne (ne_of h hd4 (by intro z; cases z))]
      exact h
    refine ⟨_, hd4, Nat.lt_of_lt_of_le (show ys.length < 1000000 by omega) (by decide), same_ch (s2.trans s4) hD, ys ++ [v], by rw [List.length_append, hl]; rfl, upd_same, fun m z hm => ?_⟩
    by_cases e : m < ys.length
    · rw [List.getElem?_append_left e] at hm
      exact mono _ _ _ _ up (mono _ _ _ _ (TupS.of s4) (hr m z hm))
    · rw [List.getElem?_append_right (by omega)] at hm
      have e2 : m = ys.length := by
        have := (List.getElem?_eq_some_iff.mp hm).1
        rw [List.length_singleton] at this
        omega
      subst e2
      rw [Nat.sub_self] at hm
      cases hm
      rw [hl]
      exact mono _ _ _ _ up r
  · rintro H' ⟨s, ys, hl, h, hr⟩
    exact hd ys H' hl s h hr
end
section
variable {K : PySem.W.Frag} {i j : Nat} {te : TE} {σ : L2.St} {H : Hp} {v : V} {Q : VK}
end
end CB

set_option maxHeartbeats 3900000
namespace XW
open PySem PySem.Spec PyProof.Rows L2
open CB
structure ECl (K : PySem.W.Frag) (mg : Str → Option Value) (nm fl : Str) (C f : Addr) : Prop where
  mg : mg nm = some (.ref C)
  ox : OexC K C
  iC : PySem.W.findIn K (.ref C) "__init__" = some (some (.ref f))
  tI : PySem.W.typeIn K (.ref f) = some (.type "function")
  no : PySem.W.findIn K (.ref C) fl = some none
  xf : XfC K C
  te : PySem.W.exmOne K (.ref C) (.ref C) = some true
def spEIni (fl : Str) (C : Addr) : Sp := fun vs H Q _ => ∃ a x, vs = [.ref a, x] ∧ H a = some (exo a C none) ∧ ∀ dx, H dx = none → dx ≠ a → Q .non (upd (upd H dx (exd dx [(fl, x)])) a (exo a C (some dx)))
def EWant (H : Hp) (fl : Str) (C : Addr) (x : V) (E : XK) : Prop := ∀ d H', Same H H' → H d = none → H' d = some (.xd [(fl, x)]) → E (.ref C) (some d) H'
theorem EWant.up {H H' : Hp} {fl : Str} {C : Addr} {x : V} {E : XK} (h : EWant H fl C x E) (s : Same H H') : EWant H' fl C x E := fun d H2 s2 hd he => h d H2 (s.trans s2) (s.free hd) he
theorem del_no {H : Hp} {a b : Addr} (h : b ≠ a) : del H a b = H b := if_neg h
theorem eraise_at {H H1 : Hp} {fl : Str} {C a dx : Addr} {x : V} {E : XK} (s1 : Same H H1) (ha : H1 a = none) (hdx : upd H1 a (exo a C none) dx = none) (hne : dx ≠ a) (k : EWant H fl C x E) :
    ∃ (d : Addr) (fs : List (Str × V)), upd (upd (upd H1 a (exo a C none)) dx (exd dx [(fl, x)])) a (exo a C (some dx)) a = some (exo a C (some d)) ∧ upd (upd (upd H1 a (exo a C none)) dx (exd dx [(fl, x)])) a (exo a C (some dx)) d = some (exd d fs) ∧ H1 d = none ∧
      E (.ref C) (some d) (upd (del (upd (upd (upd H1 a (exo a C none)) dx (exd dx [(fl, x)])) a (exo a C (some dx))) a) d (.xd fs)) := by
  have hn : H1 dx = none := by
    rw [upd_ne hne] at hdx
    exact hdx
  refine ⟨dx, [(fl, x)], upd_same, by rw [upd_ne hne, upd_same], hn, k dx _ (fun b u hb => ?_) (s1.free hn) upd_same⟩
  have hb1 := s1 _ _ hb
  have n1 : b ≠ a := fun e => by rw [e, ha] at hb1; cases hb1
  have n2 : b ≠ dx := fun e => by rw [e, hn] at hb1; cases hb1
  rw [upd_ne n2, del_no n1, upd_ne n1, upd_ne n2, upd_ne n1]
  exact hb1
inductive NoText (H : Hp) : V → Prop
  | non : NoText H .non
  | int (i : Int) : NoText H (.int i)
  | bl (b : Bool) : NoText H (.bl b)
  | lst {a : Addr} {xs : List V} (h : H a = some (.lst xs)) : NoText H (.ref a)
  | tup {a : Addr} {xs : List V} (h : H a = some (.tup xs)) : NoText H (.ref a)
  | dct {a : Addr} {kvs : List (L2.Key × V)} (h : H a = some (.dK kvs)) : NoText H (.ref a)
theorem NoText.ty {K : PySem.W.Frag} {H : Hp} {v : V} (h : NoText H v) : ∃ t : String, TyX K H v (.type t) ∧ PySem.W.kitOne K (.type t) (.type "str") = some false := by
  cases h with
  | non => exact ⟨"NoneType", .base .non, kit_ty (by decide +kernel)⟩
  | int i => exact ⟨"int", .base (.int i), kit_ty (by decide +kernel)⟩
  | bl b => exact ⟨"bool", .base (.bl b), kit_ty (by decide +kernel)⟩
  | lst h => exact ⟨"list", .base (.lst h), kit_ty (by decide +kernel)⟩
  | tup h => exact ⟨"tuple", .base (.tup h), kit_ty (by decide +kernel)⟩
  | dct h => exact ⟨"dict", .base (.dK h), kit_ty (by decide +kernel)⟩
theorem NoText.up {H H' : Hp} {x : V} (h : NoText H x) (s : Same H H') : NoText H' x := by
  cases h with
  | non => exact .non
  | int i => exact .int i
  | bl b => exact .bl b
  | lst h => exact .lst (s _ _ h)
  | tup h => exact .tup (s _ _ h)
  | dct h => exact .dct (s _ _ h)
end XW

set_option maxHeartbeats 3900000
namespace XW
open PySem PySem.Spec PyProof.Rows L2 TL
open CB
structure ECl2 (K : PySem.W.Frag) (mg : Str → Option Value) (nm f1 f2 : Str) (C f : Addr) : Prop where
  mg : mg nm = some (.ref C)
  ox : OexC K C
  iC : PySem.W.findIn K (.ref C) "__init__" = some (some (.ref f))
  tI : PySem.W.typeIn K (.ref f) = some (.type "function")
  no1 : PySem.W.findIn K (.ref C) f1 = some none
  no2 : PySem.W.findIn K (.ref C) f2 = some none
  xf : XfC K C
  te : PySem.W.exmOne K (.ref C) (.ref C) = some true
def spEIni2 (f1 f2 : Str) (C : Addr) : Sp := fun vs H Q _ => ∃ a x y, vs = [.ref a, x, y] ∧ H a = some (exo a C none) ∧ ∀ dx, H dx = none → dx ≠ a → Q .non (upd (upd (upd H dx (exd dx [(f1, x)])) a (exo a C (some dx))) dx (exd dx [(f2, y), (f1, x)]))
def EWant2 (H : Hp) (f1 f2 : Str) (C : Addr) (x y : V) (E : XK) : Prop := ∀ d H', Same H H' → H d = none → H' d = some (.xd [(f2, y), (f1, x)]) → E (.ref C) (some d) H'
theorem EWant2.up {H H' : Hp} {f1 f2 : Str} {C : Addr} {x y : V} {E : XK} (h : EWant2 H f1 f2 C x y E) (s : Same H H') : EWant2 H' f1 f2 C x y E := fun d H2 s2 hd he => h d H2 (s.trans s2) (s.free hd) he
theorem eraise2_at {H H1 : Hp} {f1 f2 : Str} {C a dx : Addr} {x y : V} {E : XK} (s1 : Same H H1) (ha : H1 a = none) (hdx : upd H1 a (exo a C none) dx = none) (hne : dx ≠ a) (k : EWant2 H f1 f2 C x y E) :
    ∃ (d : Addr) (fs : List (Str × V)), upd (upd (upd (upd H1 a (exo a C none)) dx (exd dx [(f1, x)])) a (exo a C (some dx))) dx (exd dx [(f2, y), (f1, x)]) a = some (exo a C (some d)) ∧
      upd (upd (upd (upd H1 a (exo a C none)) dx (exd dx [(f1, x)])) a (exo a C (some dx))) dx (exd dx [(f2, y), (f1, x)]) d = some (exd d fs) ∧ H1 d = none ∧
      E (.ref C) (some d) (upd (del (upd (upd (upd (upd H1 a (exo a C none)) dx (exd dx [(f1, x)])) a (exo a C (some dx))) dx (exd dx [(f2, y), (f1, x)])) a) d (.xd fs)) := by
  have hn : H1 dx = none := by
    rw [upd_ne hne] at hdx
    exact hdx
  refine ⟨dx, [(f2, y), (f1, x)], by rw [upd_ne (Ne.symm hne), upd_same], upd_same, hn, k dx _ (fun b u hb => ?_) (s1.free hn) upd_same⟩
  have hb1 := s1 _ _ hb
  have n1 : b ≠ a := fun e => by rw [e, ha] at hb1; cases hb1
  have n2 : b ≠ dx := fun e => by rw [e, hn] at hb1; cases hb1
  rw [upd_ne n2, del_no n1, upd_ne n2, upd_ne n1, upd_ne n2, upd_ne n1]
  exact hb1
theorem noX {P : Program} {w : World} {K : PySem.W.Frag} {mg : Str → Option Value} {base : Heap} {k : Nat} {f : Addr} {fd : FuncData} {ps : List Str} {sp : Sp} (F : FnOk P w K mg base (CX P w) k f fd ps sp) :
    FnOk P w K mg base CX0 k f fd ps (fun vs H Q _ => sp vs H Q fun _ _ _ => False) := by
  refine ⟨fun vs H Q E h => F.len vs H Q _ h, fun A outer s H args us vs Q E hr he hb hv h => codeAny_mono (F.run A outer s H args us vs Q _ hr he hb hv h) fun r t q => ?_⟩
  cases r with
  | ok fl => cases fl <;> exact q
  | error e =>
    obtain ⟨_, _, _, _, _, _, _, _, _, _, _, _, z⟩ := (show L2.CX P w outer H s (fun _ _ _ => False) e t from q)
    exact z.elim
end XW

set_option maxHeartbeats 0
namespace HB
open PySem PySem.Spec PyProof.Rows L2 EG RP
def oexB (K : PySem.W.Frag) (C : Addr) : Bool := match K.lookup C with
  | some ⟨.type t, _, .cls cd, sl⟩ => decide (t = "type") && ((match cd.mro with
      | .ref C' :: bm => decide (C' = C) && PySem.HandSPX.refsVE bm
      | _ => false) && (cd.hasDict && (!cd.hasDel && (match sl.toList with
      | [_, _, _, _, some (.builtin n), _] => decide (n = "ValueError.__new__")
      | _ => false))))
  | _ => false
theorem oexB_ok {K : PySem.W.Frag} {C : Addr} (h : oexB K C = true) : ∃ nm q N bs bm sn sub ab col dd k0 k1 k2 k3 k5, K.lookup C = some (excClassObj nm q C N bs bm true sn sub ab col dd k0 k1 k2 k3 k5 "ValueError.__new__") ∧ PySem.HandSPX.refsVE bm = true := by
  unfold oexB at h
  split at h
  · rename_i t dd cd sl ho
    obtain ⟨h1, h⟩ := He.ba h
    obtain ⟨h2, h⟩ := He.ba h
    obtain ⟨h3, h⟩ := He.ba h
    obtain ⟨h4, h5⟩ := He.ba h
    split at h2
    · rename_i C' bm hm
      split at h5
      · rename_i k0 k1 k2 k3 n k5 hs
        obtain ⟨h6, h7⟩ := He.ba h2
        have e1 : t = "type" := of_decide_eq_true h1
        have e2 : C' = C := of_decide_eq_true h6
        have e3 : n = "ValueError.__new__" := of_decide_eq_true h5
        have e4 : sl = #[k0, k1, k2, k3, some (.builtin n), k5] := by
          have := congrArg List.toArray hs
          simpa using this
        obtain ⟨nm, bs, mro, ns, qn, hd, sn, sub, ab, col, del⟩ := cd
        dsimp only at hm h3 h4
        have e5 : del = false := by simpa using h4
        rw [e1, e4, hm, h3, e5, e2, e3] at ho
        exact ⟨nm, qn, ns, bs, bm, sn, sub, ab, col, dd, k0, k1, k2, k3, k5, ho, h7⟩
      · cases h5
    · cases h2
  · cases h
def eqV (a b : Option (Option Value)) : Bool := decide (a = b)
def eclB (K : PySem.W.Frag) (C : Addr) (fl : Str) : Bool := oexB K C && (eqV (PySem.W.findIn K (.ref C) "__setattr__") (some (some (.builtin "object.__setattr__"))) && (decide (PySem.W.subIn K (.ref C) (.type "BaseException") = some true) && (decide (PySem.W.typeIn K (.ref C) = some (.type "type")) &&
  (PySem.W.keepIn K (.ref C) && (eqV (PySem.W.findIn K (.ref C) "__init__") (some (some (.ref (He.ma K C "__init__")))) && (decide (PySem.W.typeIn K (.ref (He.ma K C "__init__")) = some (.type "function")) && (eqV (PySem.W.findIn K (.ref C) fl) (some none) &&
  (xfB K C && decide (PySem.W.exmOne K (.ref C) (.ref C) = some true)))))))))
theorem ecl_of {K : PySem.W.Frag} {C : Addr} {mg : Str → Option Value} {nm fl : Str} (h : eclB K C fl = true) (m : mg nm = some (.ref C)) : XW.ECl K mg nm fl C (He.ma K C "__init__") := by
  obtain ⟨h1, h⟩ := He.ba h
  obtain ⟨h2, h⟩ := He.ba h
  obtain ⟨h3, h⟩ := He.ba h
  obtain ⟨h4, h⟩ := He.ba h
  obtain ⟨h5, h⟩ := He.ba h
  obtain ⟨h6, h⟩ := He.ba h
  obtain ⟨h7, h⟩ := He.ba h
  obtain ⟨h8, h⟩ := He.ba h
  obtain ⟨h9, h10⟩ := He.ba h
  exact ⟨m, ⟨oexB_ok h1, of_decide_eq_true h2, of_decide_eq_true h3, of_decide_eq_true h4, h5⟩, of_decide_eq_true h6, of_decide_eq_true h7, of_decide_eq_true h8, xfB_ok h9, of_decide_eq_true h10⟩
theorem ecl2_of {K : PySem.W.Frag} {C : Addr} {mg : Str → Option Value} {nm f1 f2 : Str} (h : eclB K C f1 = true) (h2 : eqV (PySem.W.findIn K (.ref C) f2) (some none) = true) (m : mg nm = some (.ref C)) : XW.ECl2 K mg nm f1 f2 C (He.ma K C "__init__") := by
  have B := ecl_of (mg := mg) (nm := nm) h m
  exact ⟨B.mg, B.ox, B.iC, B.tI, B.no, of_decide_eq_true h2, B.xf, B.te⟩
def twoB (o : Option Obj) (x y : Str) : Bool := match o with
  | some ⟨.type t, _, .seq its _, _⟩ => decide (t = "tuple") && (match its.toList with
    | [.str a _, .str b _] => decide (a = x) && decide (b = y)
    | _ => false)
  | _ => false
theorem twoB_ok {K : PySem.W.Frag} {a : Addr} {x y : Str} (h : twoB (K.lookup a) x y = true) : ∀ H, SqT K H a [.str x, .str y] := by
  intro H
  unfold twoB at h
  split at h
  · rename_i t dd its n sl ho
    obtain ⟨h1, h2⟩ := He.ba h
    split at h2
    · rename_i p tp q tq hs
      obtain ⟨h3, h4⟩ := He.ba h2
      have e1 : t = "tuple" := of_decide_eq_true h1
      have e2 : p = x := of_decide_eq_true h3
      have e3 : q = y := of_decide_eq_true h4
      refine .inr ⟨_, its, n, ho, by rw [e1], rfl, ?_, ?_⟩
      · have : its.size = 2 := by
          have := congrArg List.length hs
          simpa using this
        rw [this]
        decide
      · rw [hs, e2, e3]
        exact .cons ⟨_, rfl⟩ (.cons ⟨_, rfl⟩ .nil)
    · cases h2
  · cases h
def clsB (K : PySem.W.Frag) (C : Addr) : Bool :=
  eqV (PySem.W.findIn K (.ref C) "__class__") (some (some (.builtin "object.__class__"))) && (decide (PySem.W.specialIn K (.builtin "object.__class__") "__get__" = some (some (.builtin "getset_descriptor.__get__"))) &&
  (decide (PySem.W.takesIn K (.builtin "object.__class__") = some true) && (decide (PySem.W.mroIn K C (.type "object") = some true) && (eqV (PySem.W.findIn K (.ref C) "__ne__") (some (some (.builtin "object.__ne__"))) &&
  (decide (PySem.W.subIn K (.ref C) (.type "object") = some true) && decide (PySem.W.kitOne K (.ref C) (.ref C) = some true))))))
structure ClsF (K : PySem.W.Frag) (C : Addr) : Prop where
  ha : PySem.W.findIn K (.ref C) "__class__" = some (some (.builtin "object.__class__"))
  hn : PySem.W.specialIn K (.builtin "object.__class__") "__get__" = some (some (.builtin "getset_descriptor.__get__"))
  ht : PySem.W.takesIn K (.builtin "object.__class__") = some true
  hm : PySem.W.mroIn K C (.type "object") = some true
  ne : PySem.W.findIn K (.ref C) "__ne__" = some (some (.builtin "object.__ne__"))
  so : PySem.W.subIn K (.ref C) (.type "object") = some true
  kC : PySem.W.kitOne K (.ref C) (.ref C) = some true
theorem clsB_ok {K : PySem.W.Frag} {C : Addr} (h : clsB K C = true) : ClsF K C := by
  obtain ⟨h1, h⟩ := He.ba h
  obtain ⟨h2, h⟩ := He.ba h
  obtain ⟨h3, h⟩ := He.ba h
  obtain ⟨h4, h⟩ := He.ba h
  obtain ⟨h5, h⟩ := He.ba h
  obtain ⟨h6, h7⟩ := He.ba h
  exact ⟨of_decide_eq_true h1, of_decide_eq_true h2, of_decide_eq_true h3, of_decide_eq_true h4, of_decide_eq_true h5, of_decide_eq_true h6, of_decide_eq_true h7⟩
def tyL : List String := ["NoneType", "int", "bool", "str", "list", "tuple"]
def firB (K : PySem.W.Frag) (C : Addr) : Bool := PySem.W.selfFirst K C && ((tyL.all fun t => decide (PySem.W.kitOne K (.type t) (.ref C) = some false) && PySem.W.notFirst K C (.type t)) && PySem.W.notFirst K C (.ref C))
structure FirF (K : PySem.W.Frag) (C : Addr) : Prop where
  sf : PySem.W.selfFirst K C = true
  kT : ∀ t ∈ (["NoneType", "int", "bool", "str", "list", "tuple"] : List String), PySem.W.kitOne K (.type t) (.ref C) = some false ∧ PySem.W.notFirst K C (.type t) = true
  nC : PySem.W.notFirst K C (.ref C) = true
theorem firB_ok {K : PySem.W.Frag} {C : Addr} (h : firB K C = true) : FirF K C := by
  obtain ⟨h1, h⟩ := He.ba h
  obtain ⟨h2, h3⟩ := He.ba h
  exact ⟨h1, fun t ht => by
    obtain ⟨a, b⟩ := He.ba (List.all_eq_true.mp h2 t ht)
    exact ⟨of_decide_eq_true a, b⟩, h3⟩
end HB

set_option maxHeartbeats 0
namespace HF
open PySem PySem.Spec PyProof.Rows L2
def under (g : Addr → Option Obj) (as : List Addr) : List Addr := as.flatMap fun a => match g a with
  | none => []
  | some o => He.refsD o
def fresh (old : List Addr) : List Addr → List Addr → List Addr
  | acc, [] => acc
  | acc, a :: r => if acc.any (Nat.beq a) || old.any (Nat.beq a) then fresh old acc r else fresh old (a :: acc) r
def levels (g : Addr → Option Obj) : Nat → List Addr → List Addr → List Addr
  | 0, old, top => old ++ top
  | n + 1, old, top => levels g n (old ++ top) (fresh (old ++ top) [] (under g top))
def reach (n : Nat) (g : Addr → Option Obj) : List Addr := levels g n [] [mainGlobals]
abbrev frag (n : Nat) (g : Addr → Option Obj) : PySem.W.Frag := He.frT g (reach n g)
def look (n : Nat) (fa : List He.Fa) (fn : List He.DefD) (tf : List He.Defn) (ex : PySem.W.Frag → Bool) (g : Addr → Option Obj) : He.AlX := (He.obsT fa fn [] (frag n g), ex (frag n g) && He.tabsB g tf (frag n g))
theorem look_says {n : Nat} {fa : List He.Fa} {fn : List He.DefD} {tf : List He.Defn} {ex : PySem.W.Frag → Bool} {w : World} {h : Heap} (e : look n fa fn tf ex h.get? = He.valX fn [] w) : He.SaysX fa fn [] tf ex w h (frag n h.get?) := by
  unfold look at e
  generalize hK : frag n h.get? = K at e ⊢
  have e1 : He.obsT fa fn [] K = He.valT fn [] w := congrArg Prod.fst e
  have e2 : (ex K && He.tabsB h.get? tf K) = true := congrArg Prod.snd e
  obtain ⟨x1, x2⟩ := He.ba e2
  have tab : ∀ p ∈ tf, PySem.W.codeHdIn K (He.cT K p).1 (He.cT K p).2 = true ∧ ∃ o, h.get? (He.cT K p).2 = some o ∧ He.emptyTab o = true := fun p hp => by
    obtain ⟨a, b⟩ := He.ba (List.all_eq_true.mp x2 p hp)
    refine ⟨a, ?_⟩
    cases q : h.get? (He.cT K p).2 with
    | some o =>
      rw [q] at b
      exact ⟨o, rfl, b⟩
    | none =>
      rw [q] at b
      cases b
  refine ⟨e1, x1, fun p hp => (tab p hp).1, fun p hp => ?_, fun p hp => ?_⟩
  · obtain ⟨_, o, q, z⟩ := tab p hp
    rw [← hK] at q ⊢
    exact He.frT_none q z
  · obtain ⟨_, o, q, z⟩ := tab p hp
    rw [q, He.emptyTab_eq z]
end HF

namespace HJ
open PySem PySem.W PySem.Calls PyProof.Rows HandSHeadRun
theorem join {S B : Type} {x : Option S} {f : S → Bool} {g : S → B} {b : B} {G : S → Addr → Option Obj} {D : S → Bool} {n k : Nat} {fa fb : List He.Fa} {fn : List He.DefD} {tf : List He.Defn} {ex : PySem.W.Frag → Bool} {w : World}
    (h1 : x.map (fun s => (f s, g s, D s, fa.all fun f => f.ok (HF.frag n (G s)))) = some (true, b, true, true))
    (h2 : x.map (fun s => fb.all fun f => f.ok (HF.frag n (G s))) = some true)
    (h3 : x.map (fun s => (fn.take k).all fun d => d.ok (HF.frag n (G s))) = some true)
    (h3' : x.map (fun s => (fn.drop k).all fun d => d.ok (HF.frag n (G s))) = some true)
    (h4 : x.map (fun s => fn.map fun d => He.fnW (HF.frag n (G s)) d.at_) = some (fn.map He.DefD.val))
    (h5 : x.map (fun s => ex (HF.frag n (G s)) && He.tabsB (G s) tf (HF.frag n (G s))) = some true) :
    x.map (fun s => (f s, g s, (HF.look n (fa ++ fb) fn tf ex (G s), D s))) = some (true, b, (He.valX fn [] w, true)) := by
  cases x with
  | none => cases h1
  | some s =>
    have e1 := Option.some.inj h1
    have e2 := Option.some.inj h2
    have e3 := Option.some.inj h3
    have e3' := Option.some.inj h3'
    have e4 := Option.some.inj h4
    have e5 := Option.some.inj h5
    have ef : (fn.all fun d => d.ok (HF.frag n (G s))) = true := by
      rw [← List.take_append_drop k fn, List.all_append]
      simp only [e3, e3', Bool.and_self]
    simp only [Prod.mk.injEq] at e1
    obtain ⟨q1, q2, q3, q4⟩ := e1
    show some (f s, g s, (HF.look n (fa ++ fb) fn tf ex (G s), D s)) = _
    unfold HF.look He.obsT He.obsD He.valX He.valT He.valD
    rw [List.all_append]
    simp only [q1, q2, q3, q4, e2, ef, e4, e5, Bool.and_self]
    rfl
def isD (o : Option Obj) : Bool := match o with
  | some ⟨_, _, .dict _ _, _⟩ => true
  | _ => false
def hk (n : Nat) (fa : List He.Fa) (fn : List He.DefD) (tf : List He.Defn) (ex : PySem.W.Frag → Bool) : PySem.W.Hook where
  α := He.AlX × Bool
  obs := fun s => (HF.look n fa fn tf ex s.heap.get?, isD (s.heap.get? sysModules))
  val := fun w => (He.valX fn [] w, true)
  says := fun w h => (∃ K : PySem.W.Frag, K.In h ∧ He.SaysX fa fn [] tf ex w h K) ∧ ∃ (o : Obj) (es : Array DictEntry) (n : Nat), h.get? sysModules = some o ∧ o.data = .dict es n
  of := fun w s e => by
    refine ⟨⟨_, He.frT_in, HF.look_says (congrArg (fun z : He.AlX × Bool => z.1) e)⟩, ?_⟩
    have e2 : isD (s.heap.get? sysModules) = true := congrArg (fun z : He.AlX × Bool => z.2) e
    unfold isD at e2
    split at e2
    · rename_i c d es n sl ho
      exact ⟨_, es, n, ho, rfl⟩
    · cases e2
  keeps := fun w h h' ⟨a, o, es, n, h1, h2⟩ k => ⟨(He.hookX 5 fa fn [] tf ex).keeps w h h' a k, o, es, n, k _ _ h1, h2⟩
def ob (n : Nat) (fa : List He.Fa) (fn : List He.DefD) (tf : List He.Defn) (ex : PySem.W.Frag → Bool) (s : PySem.W.SharedT) : (hk n fa fn tf ex).α := (HF.look n fa fn tf ex (HandSHeadRun.getT s), isD (HandSHeadRun.getT s sysModules))
theorem ob_eq (n : Nat) (fa : List He.Fa) (fn : List He.DefD) (tf : List He.Defn) (ex : PySem.W.Frag → Bool) (s : PySem.W.SharedT) : ob n fa fn tf ex s = (hk n fa fn tf ex).obs s.abs := by
  have e : HandSHeadRun.getT s = s.abs.heap.get? := funext (HandSHeadRun.getT_eq s)
  show (HF.look n fa fn tf ex (HandSHeadRun.getT s), isD (HandSHeadRun.getT s sysModules)) = _
  rw [e]
  rfl
noncomputable abbrev E (r : OpenRow) (M : Nat) (w : World) (os : OsState) : Option SharedT := endF (stepQ (denQ tabQ) r.prog w) M r.prog w os
abbrev P1 (n : Nat) (r : OpenRow) (q : Program) (M : Nat) (loose : List PySem.Str) (fa : List He.Fa) (w : World) : Prop := ∀ os : OsState, (E r M w os).map (fun s => (looksF r.prog (boot_heap w.params) s.abs, seenQ q loose (importedModules r.prog.main.body) (fun s => xlAt q [] s && recOk r.toRowW.records s) s.abs, isD (getT s sysModules), fa.all fun f => f.ok (HF.frag n (getT s)))) = some (true, openGood q loose, true, true)
abbrev P2 (n : Nat) (r : OpenRow) (M : Nat) (fa : List He.Fa) (w : World) : Prop := ∀ os : OsState, (E r M w os).map (fun s => fa.all fun f => f.ok (HF.frag n (getT s))) = some true
abbrev P3 (n : Nat) (r : OpenRow) (M : Nat) (fn : List He.DefD) (w : World) : Prop := ∀ os : OsState, (E r M w os).map (fun s => fn.all fun d => d.ok (HF.frag n (getT s))) = some true
abbrev P4 (n : Nat) (r : OpenRow) (M : Nat) (fn : List He.DefD) (w : World) : Prop := ∀ os : OsState, (E r M w os).map (fun s => fn.map fun d => He.fnW (HF.frag n (getT s)) d.at_) = some (fn.map He.DefD.val)
abbrev P5 (n : Nat) (r : OpenRow) (M : Nat) (tf : List He.Defn) (ex : PySem.W.Frag → Bool) (w : World) : Prop := ∀ os : OsState, (E r M w os).map (fun s => ex (HF.frag n (getT s)) && He.tabsB (getT s) tf (HF.frag n (getT s))) = some true
theorem run {r : OpenRow} {q : Program} {n M k : Nat} {loose : List PySem.Str} {fa fb : List He.Fa} {fn : List He.DefD} {tf : List He.Defn} {ex : PySem.W.Frag → Bool} {w : World}
    (h1 : P1 n r q M loose fa w) (h2 : P2 n r M fb w) (h3 : P3 n r M (fn.take k) w) (h4 : P3 n r M (fn.drop k) w) (h5 : P4 n r M fn w) (h6 : P5 n r M tf ex w) : RunEq r q (hk n (fa ++ fb) fn tf ex) (ob n (fa ++ fb) fn tf ex) M loose w := by
  intro os
  have a1 := h1 os
  have a2 := h2 os
  have a3 := h3 os
  have a4 := h4 os
  have a5 := h5 os
  have a6 := h6 os
  exact join (G := getT) (D := fun s => isD (getT s sysModules)) a1 a2 a3 a4 a5 a6
end HJ

set_option maxHeartbeats 0
namespace K3
open PySem PySem.Spec PyProof.Rows L2 EG RP
def exB (K : PySem.W.Frag) : Bool := HB.eclB K (He.ga K "BadLine") "index" && (decide (PySem.W.exmOne K (.ref (He.ga K "Apart")) (.ref (He.ga K "BadLine")) = some false) && (HB.eclB K (He.ga K "BadSight") "index" && (HB.eclB K (He.ga K "Apart") "first" && (HB.eqV (PySem.W.findIn K (.ref (He.ga K "Apart")) "second") (some none) && (HB.clsB K (He.ga K "Run") && (HB.firB K (He.ga K "Run") && (HB.twoB (K.lookup (He.ga K "TREE_LOOKS")) "read" "list")))))))
def dG (x : Str) (i : Nat) : He.DefD := ⟨(x, none), x, x, defArgs (top i), defBody (top i), defScope (top i), [], []⟩
def dI (x m q : Str) (i j : Nat) (ds : List He.Dv) : He.DefD := ⟨(x, some m), m, q, defArgs (inClass (top i) j), defBody (inClass (top i) j), defScope (inClass (top i) j), ds, []⟩
def fnL : List He.DefD := ([dG "is_name" 11, dG "is_path" 12, dG "is_place" 13, dG "beginning" 14, dG "is_beneath" 15, dG "is_at_or_beneath" 16, dG "rest_in" 17, dG "is_row" 19, dG "as_look" 20, dG "can_look" 21, dG "can_show" 22, dG "is_listing" 23] : List He.DefD) ++ ([dG "is_entry" 24, dG "as_sight" 25, dG "follows_from" 28, dG "lost_by_file" 29, dG "lost_by_names" 30, dG "bar_each_other" 31, dG "denies_some" 32, dG "contraries" 33, dG "contrary_of_entry" 34, dG "first_apart" 35, dG "check_together" 37, dG "sights_of_run" 40] : List He.DefD) ++ ([dG "write_run" 45, dG "read_run" 46, dG "look_text" 47, dG "answer_text" 48, dG "sight_in" 49, dG "outcome_in" 50, dG "look_in" 51, dG "answers_in" 52, dG "is_between" 53, dG "_law_draw" 55, dG "_law_pick" 56, dG "_law_mixed" 57] : List He.DefD) ++ ([dG "_law_same" 58, dG "_law_fresh" 59, dG "_law_pool" 60, dG "_law_path" 61, dG "_law_beneath" 62, dG "_law_has_room" 63, dG "_law_text" 64, dG "_law_files" 65, dG "_law_world" 66, dG "_law_names_in" 67, dG "_law_shows" 68, dG "_law_look" 69] : List He.DefD) ++ ([dG "_law_looks" 70, dG "_law_saw" 71, dG "_law_must" 72, dG "_law_entries_fit" 73, dG "_law_fits" 74, dG "_law_true_sights" 75, dG "_law_first_apart" 76, dG "_law_answer_text" 77, dG "_law_run_text" 78, dG "_law_spoiled" 79, dG "_law_is_name" 80, dG "_law_look_of" 81] : List He.DefD) ++ ([dG "_law_answer_of" 82, dG "_law_read" 83, dG "_law_end" 84, dG "law" 85, dI "BadSight" "__init__" "BadSight.__init__" 3 0 [], dI "Apart" "__init__" "Apart.__init__" 4 0 [], dI "BadLine" "__init__" "BadLine.__init__" 5 0 [], dI "Run" "__init__" "Run.__init__" 39 0 []] : List He.DefD)
def gloL : List Str := (["is_name", "is_path", "is_place", "beginning", "is_beneath", "is_at_or_beneath", "rest_in", "is_row", "as_look", "can_look", "can_show", "is_listing"] : List PySem.Str) ++ (["is_entry", "as_sight", "follows_from", "lost_by_file", "lost_by_names", "bar_each_other", "denies_some", "contraries", "contrary_of_entry", "first_apart", "check_together", "sights_of_run"] : List PySem.Str) ++ (["write_run", "read_run", "look_text", "answer_text", "sight_in", "outcome_in", "look_in", "answers_in", "is_between", "_law_draw", "_law_pick", "_law_mixed"] : List PySem.Str) ++ (["_law_same", "_law_fresh", "_law_pool", "_law_path", "_law_beneath", "_law_has_room", "_law_text", "_law_files", "_law_world", "_law_names_in", "_law_shows", "_law_look"] : List PySem.Str) ++ (["_law_looks", "_law_saw", "_law_must", "_law_entries_fit", "_law_fits", "_law_true_sights", "_law_first_apart", "_law_answer_text", "_law_run_text", "_law_spoiled", "_law_is_name", "_law_look_of"] : List PySem.Str) ++ (["_law_answer_of", "_law_read", "_law_end", "law", "BadSight", "Apart", "BadLine", "Run", "TREE_LOOKS"] : List PySem.Str)
def freeL : List Str := (["int", "len", "range", "list", "tuple", "any", "all", "sorted", "isinstance", "enumerate", "zip", "str"] : List Str) ++ (["repr", "min", "max", "dict", "set", "iter"] : List Str)
def conL : List He.Fa := ([.str "STROKE" "/", .str "ROOT" "", .str "LETTERS" "abcdefghijklmnopqrstuvwxyz", .int "LONGEST" 8, .mkr "Run", .cls "Run", .noat "Run" "sights", .noat "Run" "outcome", .str "SIGN" " : ", .str "NOTHING" "-", .str "QUOTE" "\""] : List He.Fa)
def faL : List He.Fa := (gloL.map fun x => He.Fa.glo x) ++ ((freeL.map fun x => He.Fa.free x) ++ conL)
def tfL : List He.Defn := []
abbrev hkL : PySem.W.Hook := HJ.hk 4 faL fnL tfL exB
abbrev RL : PySem.W.OpenRow := PySem.W.OpenLaw.row PySem.Challenge.rw_trueagain_k31_run_texts_refused
abbrev obL : PySem.W.SharedT → hkL.α := HJ.ob 4 faL fnL tfL exB
theorem obL_eq (s : PySem.W.SharedT) : obL s = hkL.obs s.abs := HJ.ob_eq 4 faL fnL tfL exB s
def looseL : List PySem.Str := (["_wall", "AgainError", "BadSight", "Apart", "BadLine", "is_name", "is_path", "is_place", "beginning", "is_beneath", "is_at_or_beneath", "rest_in"] : List PySem.Str) ++ (["is_row", "as_look", "can_look", "can_show", "is_listing", "is_entry", "as_sight", "follows_from", "lost_by_file", "lost_by_names", "bar_each_other", "denies_some"] : List PySem.Str) ++ (["contraries", "contrary_of_entry", "first_apart", "check_together", "Run", "sights_of_run", "write_run", "read_run", "look_text", "answer_text", "sight_in", "outcome_in"] : List PySem.Str) ++ (["look_in", "answers_in", "is_between", "_law_draw", "_law_pick", "_law_mixed", "_law_same", "_law_fresh", "_law_pool", "_law_path", "_law_beneath", "_law_has_room"] : List PySem.Str) ++ (["_law_text", "_law_files", "_law_world", "_law_names_in", "_law_shows", "_law_look", "_law_looks", "_law_saw", "_law_must", "_law_entries_fit", "_law_fits", "_law_true_sights"] : List PySem.Str) ++ (["_law_first_apart", "_law_answer_text", "_law_run_text", "_law_spoiled", "_law_is_name", "_law_look_of", "_law_answer_of", "_law_read", "_law_end", "LETTERS", "LONGEST", "STROKE"] : List PySem.Str) ++ (["ROOT", "TREE_LOOKS", "SIGN", "NOTHING", "QUOTE"] : List PySem.Str)
theorem run1 (w : World) : HJ.P1 4 RL (PySem.W.view RL.prog [85]) 20000 looseL (gloL.map fun x => He.Fa.glo x) w := by
  intro os
  kernel_rfl
theorem run2 (w : World) : HJ.P2 4 RL 20000 ((freeL.map fun x => He.Fa.free x) ++ conL) w := by
  intro os
  kernel_rfl
theorem run3 (w : World) : HJ.P3 4 RL 20000 (fnL.take 34) w := by
  intro os
  kernel_rfl
theorem run4 (w : World) : HJ.P3 4 RL 20000 (fnL.drop 34) w := by
  intro os
  kernel_rfl
theorem run5 (w : World) : HJ.P4 4 RL 20000 fnL w := by
  intro os
  kernel_rfl
theorem run6 (w : World) : HJ.P5 4 RL 20000 tfL exB w := by
  intro os
  kernel_rfl
theorem runL (w : World) : HandSHeadRun.RunEq RL (PySem.W.view RL.prog [85]) hkL obL 20000 looseL w :=
  HJ.run (run1 w) (run2 w) (run3 w) (run4 w) (run5 w) (run6 w)
end K3

set_option maxHeartbeats 3900000
namespace K3
open PySem PySem.Spec PyProof.Rows L2 TL
open C8 (pss_cut tCut pe_gc)
def IsNm (z : Str) : Prop := 1 ≤ z.length ∧ z.length ≤ 8 ∧ ∀ c ∈ tl z, 97 ≤ c ∧ c ≤ 122
instance (z : Str) : Decidable (IsNm z) := by unfold IsNm; infer_instance
abbrev letters : Str := "abcdefghijklmnopqrstuvwxyz"
theorem letter_at : ∀ i, i < 26 → (letters.cps.toList)[i]? = some (97 + i) := by decide +kernel
theorem letters_all : ∀ c ∈ letters.cps.toList, 97 ≤ c ∧ c ≤ 122 := by decide +kernel
theorem join_one : ∀ cs : List Nat, tl (Txt.join "" (cs.map fun c => (⟨#[c]⟩ : Str))) = cs
  | [] => by
    rw [join_eq]
    rfl
  | [c] => by
    rw [join_eq]
    rfl
  | c :: d :: r => by
    have ih := join_one (d :: r)
    rw [join_eq] at ih ⊢
    have e : Str.join "" ((c :: d :: r).map fun c => (⟨#[c]⟩ : Str)) = (⟨#[c]⟩ : Str) ++ "" ++ Str.join "" ((d :: r).map fun c => (⟨#[c]⟩ : Str)) := rfl
    rw [e, tl_append, tl_append, ih]
    rfl
theorem len_tl (z : Str) : z.length = (tl z).length := by simp [Str.length, tl]
theorem name_of_letters {cs : List Nat} (h1 : 1 ≤ cs.length) (h8 : cs.length ≤ 8) (h : ∀ c ∈ cs, 97 ≤ c ∧ c ≤ 122) : IsNm (Txt.join "" (cs.map fun c => (⟨#[c]⟩ : Str))) := by
  refine ⟨?_, ?_, ?_⟩
  · rw [len_tl, join_one]
    exact h1
  · rw [len_tl, join_one]
    exact h8
  · rw [join_one]
    exact h
def spare (i : Nat) : Str := "q" ++ (⟨#[97 + i / 26]⟩ : Str) ++ (⟨#[97 + i % 26]⟩ : Str)
theorem spare_tl (i : Nat) : tl (spare i) = [113, 97 + i / 26, 97 + i % 26] := by
  unfold spare
  rw [tl_append, tl_append]
  rfl
theorem spare_nm {i : Nat} (h : i < 676) : IsNm (spare i) := by
  refine ⟨?_, ?_, ?_⟩
  · rw [len_tl, spare_tl]
    exact Nat.succ_le_succ (Nat.zero_le 2)
  · rw [len_tl, spare_tl]
    exact Nat.le_of_ble_eq_true rfl
  · rw [spare_tl]
    intro c hc
    simp only [List.mem_cons, List.not_mem_nil, or_false] at hc
    omega
theorem spare_inj {i j : Nat} (h : spare i = spare j) : i = j := by
  have e := congrArg tl h
  rw [spare_tl, spare_tl] at e
  simp only [List.cons.injEq, and_true, true_and] at e
  omega
theorem pigeon {α : Type} [DecidableEq α] : ∀ (l m : List α), l.Nodup → (∀ x ∈ l, x ∈ m) → l.length ≤ m.length
  | [], _, _, _ => Nat.zero_le _
  | x :: r, m, nd, h => by
    have hx := h x List.mem_cons_self
    have nd2 := List.nodup_cons.mp nd
    have ih := pigeon r (m.erase x) nd2.2 fun y hy => (List.mem_erase_of_ne fun z => nd2.1 (by rw [← z]; exact hy)).mpr (h y (List.mem_cons_of_mem _ hy))
    rw [List.length_erase_of_mem hx] at ih
    have := List.length_pos_of_mem hx
    rw [List.length_cons]
    omega
theorem spares_many {taken : List Str} (h : ∀ i, i < 676 → spare i ∈ taken) : 100 ≤ taken.length := by
  have q := pigeon ((List.range 100).map spare) taken ?_ ?_
  · rw [List.length_map, List.length_range] at q
    exact q
  · exact List.Pairwise.map spare (fun a b h e => h (spare_inj e)) List.nodup_range
  · intro x hx
    obtain ⟨i, hi, rfl⟩ := List.mem_map.mp hx
    exact h i (by have := List.mem_range.mp hi; omega)
theorem inV_strs (z : Str) : ∀ zs : List Str, inV (.str z) (zs.map V.str) = decide (z ∈ zs)
  | [] => rfl
  | y :: r => by
    have ih := inV_strs z r
    show (eqV (.str y) (.str z) || inV (.str z) (r.map V.str)) = decide (z ∈ y :: r)
    rw [ih]
    show ((y == z) || decide (z ∈ r)) = decide (z ∈ y :: r)
    by_cases e : y = z
    · subst e
      simp
    · have e2 : z ≠ y := fun q => e q.symm
      simp [e, e2]
theorem flat_strs : ∀ zs : List Str, (zs.map V.str).all flatV = true
  | [] => rfl
  | _ :: r => flat_strs r
end K3

set_option maxHeartbeats 3900000
namespace K3
open PySem PySem.Spec PyProof.Rows L2 TL
open C8 (pss_cut tCut pe_gc)
abbrev sLook : Stmt := top 69
abbrev sLooks : Stmt := top 70
theorem at_map {α β : Type} {f : α → β} {xs : List α} {d : Int} {x : α} (h : atI xs d = some x) : atI (xs.map f) d = some (f x) := by
  unfold atI at h ⊢
  rw [List.length_map]
  cases e : ixN xs.length d with
  | none =>
    rw [e] at h
    cases h
  | some j =>
    rw [e] at h
    have h2 : xs[j]? = some x := h
    show (xs.map f)[j]? = some (f x)
    rw [List.getElem?_map, h2]
    rfl
structure At (K : PySem.W.Frag) (mg : Str → Option Value) (x : Str) (f : Addr) (fd : FuncData) (ps : List Str) : Prop where
  m : mg x = some (.ref f)
  k : PySem.W.keepIn K (.ref f) = true
  b : L2.Binds K fd ps []
structure TB (mg : Str → Option Value) : Prop where
  int : mg "int" = none
  len : mg "len" = none
  range : mg "range" = none
  list : mg "list" = none
  tuple : mg "tuple" = none
  any : mg "any" = none
  all : mg "all" = none
  sorted : mg "sorted" = none
  isinstance : mg "isinstance" = none
  enumerate : mg "enumerate" = none
  zip : mg "zip" = none
  str : mg "str" = none
abbrev aD' (K : PySem.W.Frag) (mg : Str → Option Value) (f : Addr) (fd : FuncData) := At K mg "_law_draw" f fd ["_law_stream", "_law_many"]
def texts : List Str := ["", "x", "y", "x y", "no", "yes", "a/b", "-", "xa", "xb", "X"]
def spText : Sp := fun vs H Q _ => ∃ (st l : Addr) (c : Nat), vs = [.ref st] ∧ Strm H st l c ∧ c ≤ 1000000 ∧
  ∀ (z : Str) (H' : Hp), z ∈ texts → But st l H H' → Strm H' st l (c + 1) → Q (.str z) H'
structure Pool (H : Hp) (st l p : Addr) (zs : List Str) : Prop where
  h : H p = some (.lst (zs.map V.str))
  n1 : p ≠ st
  n2 : p ≠ l
theorem Pool.but {H H' : Hp} {st l p : Addr} {zs : List Str} (h : Pool H st l p zs) (B : But st l H H') : Pool H' st l p zs := ⟨B _ _ h.h h.n1 h.n2, h.n1, h.n2⟩
def spPath : Sp := fun vs H Q _ => ∃ (st l p : Addr) (c : Nat) (zs : List Str) (most : Int), vs = [.ref st, .ref p, .int most] ∧ Strm H st l c ∧ c ≤ 900000 ∧ Pool H st l p zs ∧ 0 < zs.length ∧ zs.length < 1000 ∧ (∀ z ∈ zs, IsNm z) ∧ 0 < most ∧ most < 1000 ∧
  ∀ (ys : List Str) (H' : Hp) (c' : Nat), 1 ≤ ys.length → (ys.length : Int) ≤ most → (∀ y ∈ ys, y ∈ zs) → But st l H H' → Strm H' st l c' → c' ≤ c + 1 + most.toNat → Q (.str (Txt.join "/" ys)) H'
def spFresh : Sp := fun vs H Q _ => ∃ (st l p : Addr) (c : Nat) (zs : List Str), vs = [.ref st, .ref p] ∧ Strm H st l c ∧ c ≤ 900000 ∧ Pool H st l p zs ∧ zs.length < 100 ∧
  ∀ (z : Str) (H' : Hp) (c' : Nat), IsNm z → z ∉ zs → But st l H H' → Strm H' st l c' → c' ≤ c + 11 → Q (.str z) H'
section
variable {P : Program} {w : World} {K : PySem.W.Frag} {mg : Str → Option Value} {base : Heap} {fD fP fPa fFr : Addr} {fdD fdP fdPa fdFr : FuncData}
theorem scTe : FnScope ["_law_stream"] ["_law_stream"] (defScope sText) := ⟨rfl, rfl, rfl, by decide +kernel, rfl, by decide +kernel, by decide +kernel⟩
theorem ok_text {f : Addr} {fd : FuncData} (F : Fun K "_law_text" "_law_text" sText f fd) (aD : aD' K mg fD fdD) (GD : FnOk P w K mg base CX0 1 fD fdD ["_law_stream", "_law_many"] spDraw) : FnOk P w K mg base CX0 2 f fd ["_law_stream"] spText := by
  refine F.ok scTe (fun vs H Q E h => ?_) (fun cdv A outer s H vs Q E hr h => ?_)
  · obtain ⟨st, l, c, rfl, _⟩ := h
    rfl
  · obtain ⟨st, l, c, rfl, S, hc, k⟩ := h
    refine ⟨_, pss_one (ps_ret (pe_ix ix_list (pe_lst (pa_cons pe_str (pa_cons pe_str (pa_cons pe_str (pa_cons pe_str (pa_cons pe_str (pa_cons pe_str (pa_cons pe_str (pa_cons pe_str (pa_cons pe_str (pa_cons pe_str (pa_cons pe_str pa_nil)))))))))))) (pe_call GD (hr.mono (by decide)) rfl aD.m aD.k aD.b .nil pass0 (pa_cons (pv 0) (pa_cons pe_int pa_nil))) (fun _ _ => rfl))), ?_⟩
    refine ⟨by show 11 ≤ sizeLine; decide, fun p hp => ?_⟩
    have np := S.ne_new hp
    refine ⟨_, rfl, st, l, c, _, rfl, S.up (same_new hp), by omega, by decide, by decide, fun d H' d0 d1 B S' => ?_⟩
    have hp' := B _ _ upd_same np.1 np.2
    obtain ⟨i, x, hx, ha⟩ := at_int (xs := texts.map V.str) d0 (by exact d1)
    obtain ⟨z, hz, rfl⟩ := List.mem_map.mp (List.mem_of_getElem? hx)
    exact ⟨p, texts.map V.str, d, .str z, rfl, rfl, SqL.of hp', ha, k _ _ hz ((But.same (same_new hp)).trans B) S'⟩
theorem scPa : FnScope ["_law_stream", "_law_pool_here", "_law_most", "_law_k"] ["_law_stream", "_law_pool_here", "_law_most"] (defScope sPath) := ⟨rfl, rfl, rfl, by decide +kernel, rfl, by decide +kernel, by decide +kernel⟩
theorem names_len {ys : List Str} (h : ∀ y ∈ ys, y.length ≤ 8) : (ys.map (·.length)).sum ≤ ys.length * 8 := by
  induction ys with
  | nil => exact Nat.le_refl _
  | cons y r ih =>
    have := ih fun z hz => h z (List.mem_cons_of_mem _ hz)
    have := h y List.mem_cons_self
    simp only [List.map_cons, List.sum_cons, List.length_cons]
    omega
theorem ok_path {f : Addr} {fd : FuncData} (F : Fun K "_law_path" "_law_path" sPath f fd) (T : TB mg) (aD : aD' K mg fD fdD) (aP : At K mg "_law_pick" fP fdP ["_law_stream", "_law_things"]) (GD : FnOk P w K mg base CX0 1 fD fdD ["_law_stream", "_law_many"] spDraw)
    (GP : FnOk P w K mg base CX0 2 fP fdP ["_law_stream", "_law_things"] spPick) : FnOk P w K mg base CX0 3 f fd ["_law_stream", "_law_pool_here", "_law_most"] spPath := by
  refine F.ok scPa (fun vs H Q E h => ?_) (fun cdv A outer s H vs Q E hr h => ?_)
  · obtain ⟨st, l, p, c, zs, most, rfl, _⟩ := h
    rfl
  · obtain ⟨st, l, p, c, zs, most, rfl, S, hc, L, z0, z1, nm, m0, m1, k⟩ := h
    refine ⟨_, pss_one (ps_ret (pe_join pe_str (pe_lc (own := [("_law_k", 3)]) (g := gName 3) (tt := tYes) rfl scPa.nd (pi_range1 rfl T.range (pa_cons (pe_op op_add pe_int (pe_call GD (hr.mono (by decide)) rfl aD.m aD.k aD.b .nil pass0 (pa_cons (pv 0) (pa_cons (pv 2) pa_nil)))) pa_nil)) (blkOk_by (own := [("_law_k", 3)]) (N := ["_law_stream", "_law_pool_here", "_law_most", "_law_k"]) (sc := defScope sPath) (by decide +kernel)) (fun _ _ _ _ _ => (pg_name (i := 3) scPa.nd rfl (Or.inl rfl))) (fun _ _ _ _ _ => pts_nil) (fun _ _ _ _ _ => (pe_call GP (hr.mono (by decide)) rfl aP.m aP.k aP.b .nil pass0 (pa_cons (pv 0) (pa_cons (pv 1) pa_nil))))))), ?_⟩
    refine ⟨⟨_, rfl⟩, _, rfl, _, rfl, st, l, c, _, rfl, S, by omega, m0, by omega, fun d H1 d0 d1 B1 S1 => ?_⟩
    obtain ⟨n, hn⟩ : ∃ n : Nat, 1 + d = (n : Int) := ⟨(1 + d).toNat, by omega⟩
    refine ⟨_, _, rfl, rfl, 1 + d, rfl, by omega, by omega, fun D hD => ?_⟩
    rw [show (1 + d).toNat = n by omega]
    refine lc_range (lo := 0) (n := n) (fun i H' => But st l H1 H' ∧ Strm H' st l (c + 1 + i) ∧ ∃ ys : List Str, ys.length = i ∧ H' D = some (.lst (ys.map V.str)) ∧ ∀ y ∈ ys, y ∈ zs)
      ⟨But.same (same_new hD), S1.up (same_new hD), [], rfl, upd_same, by simp⟩ ?_ ?_
    · rintro i H' hi ⟨B', S', ys, hy, hD', hs⟩
      have nD := S1.ne_new hD
      have L' := L.but (B1.trans B')
      refine ⟨rfl, _, rfl, _, rfl, .inl ⟨st, l, c + 1 + i, p, zs.map V.str, rfl, S', by omega, L'.h, L'.n1, L'.n2, by rw [List.length_map]; exact z0, by rw [List.length_map]; exact z1, fun j x H'' hx B'' S'' => ?_⟩⟩
      obtain ⟨z, hz, rfl⟩ := List.mem_map.mp (List.mem_of_getElem? hx)
      refine ⟨_, B'' _ _ hD' nD.1 nD.2, ?_, (B'.trans B'').put hD, S''.put nD, ys ++ [z], ?_, ?_, fun y hy' => ?_⟩
      · rw [List.length_map, hy]
        exact Nat.lt_of_lt_of_le (show i < 1001 by omega) (by decide)
      · rw [List.length_append, hy]
        rfl
      · rw [upd_same, List.map_append]
        rfl
      · rcases List.mem_append.mp hy' with q | q
        · exact hs y q
        · rw [List.mem_singleton.mp q]
          exact hz
    · rintro H' ⟨B', S', ys, hy, hD', hs⟩
      refine ⟨_, D, ys, rfl, rfl, .inl (SqL.of hD'), ?_, k ys H' (c + 1 + n) (by omega) (by omega) hs (B1.trans B') S' (by omega)⟩
      have := names_len fun y q => (nm y (hs y q)).2.1
      have e : (("/" : Str).length) = 1 := by decide
      rw [e]
      omega
def fwords : List Str := ["read", "list", "setting", "tool", "end", "main", "none"]
theorem fwords_nm : ∀ z ∈ fwords, IsNm z := by decide +kernel
def nums : List Int := [1, 1, 1, 2, 3, 8]
theorem nums_ok : ∀ n ∈ nums, 1 ≤ n ∧ n ≤ 8 := by decide
theorem scFr : FnScope ["_law_stream", "_law_taken", "_law_letters", "_law_words", "_law_k", "_law_name", "_law_spare"] ["_law_stream", "_law_taken"] (defScope sFresh) := ⟨rfl, rfl, rfl, by decide +kernel, rfl, by decide +kernel, by decide +kernel⟩
theorem ok_fresh {f : Addr} {fd : FuncData} (F : Fun K "_law_fresh" "_law_fresh" sFresh f fd) (T : TB mg) (aD : aD' K mg fD fdD) (aP : At K mg "_law_pick" fP fdP ["_law_stream", "_law_things"]) (GD : FnOk P w K mg base CX0 1 fD fdD ["_law_stream", "_law_many"] spDraw)
    (GP : FnOk P w K mg base CX0 2 fP fdP ["_law_stream", "_law_things"] spPick) : FnOk P w K mg base CX0 3 f fd ["_law_stream", "_law_taken"] spFresh := by
  refine F.ok scFr (fun vs H Q E h => ?_) (fun cdv A outer s H vs Q E hr h => ?_)
  · obtain ⟨st, l, p, c, zs, rfl, _⟩ := h
    rfl
  · obtain ⟨st, l, p, c, zs, rfl, S, hc, L, z1, k⟩ := h
    refine ⟨_, pss_cut (ps_asg (pe_tup (pa_cons pe_str (pa_cons (pe_lst (pa_cons pe_str (pa_cons pe_str (pa_cons pe_str (pa_cons pe_str (pa_cons pe_str (pa_cons pe_str (pa_cons pe_str pa_nil)))))))) pa_nil))) (pg_tup rfl (pgs_cons (pg_name (i := 2) scFr.nd rfl (Or.inr rfl)) (pgs_cons (pg_name (i := 3) scFr.nd rfl (Or.inl rfl)) pgs_nil))))
        (pss_cut (ps_set (i := 5) scFr.nd rfl (Or.inl rfl) (pe_join pe_str (pe_lc (own := [("_law_k", 4)]) (g := gName 4) (tt := tYes) rfl scFr.nd (pi_range1 rfl T.range (pa_cons (pe_ix ix_list (pe_lst (pa_cons pe_int (pa_cons pe_int (pa_cons pe_int (pa_cons pe_int (pa_cons pe_int (pa_cons pe_int pa_nil))))))) (pe_call GD (hr.mono (by decide)) rfl aD.m aD.k aD.b .nil pass0 (pa_cons (pv 0) (pa_cons pe_int pa_nil))) (fun _ _ => rfl)) pa_nil)) (blkOk_by (own := [("_law_k", 4)]) (N := ["_law_stream", "_law_taken", "_law_letters", "_law_words", "_law_k", "_law_name", "_law_spare"]) (sc := defScope sFresh) (by decide +kernel)) (fun _ _ _ _ _ => (pg_name (i := 4) scFr.nd rfl (Or.inl rfl))) (fun _ _ _ _ _ => pts_nil) (fun _ _ _ _ _ => (pe_ix ix_str (pv 2) (pe_call GD (hr.mono (by decide)) rfl aD.m aD.k aD.b .nil pass0 (pa_cons (pv 0) (pa_cons pe_int pa_nil))) (fun _ _ => rfl))))))
        (pss_cut (ps_set (i := 5) scFr.nd rfl (Or.inl rfl) (pe_ifExp (pt_cmpR op_eq (pe_call GD (hr.mono (by decide)) rfl aD.m aD.k aD.b .nil pass0 (pa_cons (pv 0) (pa_cons pe_int pa_nil))) pe_int (nomark _)) (pe_call GP (hr.mono (by decide)) rfl aP.m aP.k aP.b .nil pass0 (pa_cons (pv 0) (pa_cons (pv 3) pa_nil))) (pv 5)))
        (pss_cut (ps_for PassesOwn.never rfl (pi_range1 rfl T.range (pa_cons (pe_op op_mul pe_int (pe_callTy call_int1 (by rfl) T.int (by decide +kernel) (pa_cons (pe_cmpR op_in_seq (pv 5) (pv 1) (by rfl)) pa_nil))) pa_nil)) (pg_name (i := 4) scFr.nd rfl (Or.inl rfl)) (pss_cut (ps_set (i := 6) scFr.nd rfl (Or.inl rfl) (pe_op op_add_str (pe_op op_add_str pe_str (pe_ix ix_str (pv 2) (pe_op op_fdiv (pv 4) pe_int) (fun _ _ => rfl))) (pe_ix ix_str (pv 2) (pe_op op_mod (pv 4) pe_int) (fun _ _ => rfl))))
        (pss_one (ps_if (pt_cmpR op_notIn_seq (pv 6) (pv 1) (by rfl)) (pss_one (ps_ret (pv 6))) (pss_nil)))))
        (pss_one (ps_ret (pv 5)))))), ?_⟩
    -- letters, words
    refine ⟨fun σ H' => ∃ q, σ = [some (.ref st), some (.ref p), some (.str letters), some (.ref q), none, none, none] ∧ But st l H H' ∧ Strm H' st l c ∧ Pool H' st l q fwords, ?_, ?_⟩
    · refine ⟨by show 7 ≤ sizeLine; decide, fun q hq => ⟨by show 2 ≤ sizeLine; decide, fun t ht => ?_⟩⟩
      have nq := S.ne_new hq
      have nt : q ≠ t := ne_of_none upd_same ht
      have s1 : Same H (upd (upd H q (.lst (fwords.map V.str))) t (.tup [.str letters, .ref q])) := (same_new hq).trans (same_new ht)
      exact ⟨t, _, rfl, SqT.of upd_same, rfl, _, _, rfl, _, _, rfl, rfl, q, rfl, But.same s1, S.up s1, ⟨by rw [upd_ne nt]; exact upd_same, nq.1, nq.2⟩⟩
    rintro _ H1 ⟨q, rfl, B1, S1, Lq⟩
    -- name = ''.join(..)
    refine ⟨fun σ H' => ∃ z x4 c', σ = [some (.ref st), some (.ref p), some (.str letters), some (.ref q), x4, some (.str z), none] ∧ IsNm z ∧ But st l H H' ∧ Strm H' st l c' ∧ c' ≤ c + 9 ∧ Pool H' st l q fwords, ?_, ?_⟩
    · refine ⟨⟨_, rfl⟩, by show 6 ≤ sizeLine; decide, fun u hu => ⟨_, rfl, st, l, c, _, rfl, S1.up (same_new hu), by omega, by decide, by decide, fun d H2 d0 d1 B2 S2 => ?_⟩⟩
      have nu := S1.ne_new hu
      have hu' := B2 _ _ upd_same nu.1 nu.2
      obtain ⟨i, x, hx, ha⟩ := at_int (xs := nums) d0 (by exact d1)
      obtain ⟨x0, x8⟩ := nums_ok x (List.mem_of_getElem? hx)
      obtain ⟨n, rfl⟩ := Int.eq_ofNat_of_zero_le (show 0 ≤ x by omega)
      have ha2 : atI (nums.map V.int) d = some (.int (n : Int)) := at_map ha
      refine ⟨u, _, d, _, rfl, rfl, SqL.of hu', ha2, (n : Int), rfl, by omega, by omega, fun D hD => ?_⟩
      have B02 : But st l H1 H2 := (But.same (same_new hu)).trans B2
      have nD := S2.ne_new hD
      refine lc_range (lo := 0) (n := n) (fun i H' => But st l H2 H' ∧ Strm H' st l (c + 1 + i) ∧ ∃ ys : List Nat, ys.length = i ∧ H' D = some (.lst ((ys.map fun c => (⟨#[c]⟩ : Str)).map V.str)) ∧ ∀ y ∈ ys, 97 ≤ y ∧ y ≤ 122)
        ⟨But.same (same_new hD), S2.up (same_new hD), [], rfl, upd_same, by simp⟩ ?_ ?_
      · rintro i H' hi ⟨B', S', ys, hy, hD', hs⟩
        refine ⟨rfl, _, rfl, _, rfl, st, l, c + 1 + i, _, rfl, S', by omega, by decide, by decide, fun e H'' e0 e1 B'' S'' => ?_⟩
        obtain ⟨j, y, hj, hat⟩ := at_int (xs := letters.cps.toList) e0 (by exact e1)
        refine ⟨letters, e, y, rfl, rfl, by decide, hat, _, B'' _ _ hD' nD.1 nD.2, ?_, (B'.trans B'').put hD, S''.put nD, ys ++ [y], ?_, ?_, fun v hv => ?_⟩
        · rw [List.length_map, List.length_map, hy]
          exact Nat.lt_of_lt_of_le (show i < 1001 by omega) (by decide)
        · rw [List.length_append, hy]
          rfl
        · rw [upd_same, List.map_append, List.map_append]
          rfl
        · rcases List.mem_append.mp hv with g | g
          · exact hs v g
          · rw [List.mem_singleton.mp g]
            exact letters_all y (List.mem_of_getElem? hj)
      · rintro H' ⟨B', S', ys, hy, hD', hs⟩
        refine ⟨_, D, ys.map fun c => ⟨#[c]⟩, rfl, rfl, .inl (SqL.of hD'), ?_, _, none, c + 1 + n, rfl, name_of_letters (by omega) (by omega) hs, B1.trans (B02.trans B'), S', by omega, (Lq.but B02).but B'⟩
        have := names_len (ys := ys.map fun c => (⟨#[c]⟩ : Str)) fun y q => by
          obtain ⟨c, _, rfl⟩ := List.mem_map.mp q
          exact (by decide : 1 ≤ 8)
        have e : (("" : Str).length) = 0 := by decide
        rw [e]
        rw [List.length_map] at this ⊢
        omega
    rintro _ H2 ⟨z, x4, c2, rfl, nz, B2, S2, hc2, Lq2⟩
    -- name = pick(words) if draw(9) == 0 else name
    refine ⟨fun σ H' => ∃ z x4 c', σ = [some (.ref st), some (.ref p), some (.str letters), some (.ref q), x4, some (.str z), none] ∧ IsNm z ∧ But st l H H' ∧ Strm H' st l c' ∧ c' ≤ c + 11, ?_, ?_⟩
    · refine ⟨_, rfl, st, l, c2, _, rfl, S2, by omega, by decide, by decide, fun d H3 d0 d1 B3 S3 => ⟨rfl, _, rfl, ?_⟩⟩
      refine ite2 (fun _ => ?_) (fun _ => ?_)
      · have Lq3 := Lq2.but B3
        refine ⟨_, rfl, _, rfl, .inl ⟨st, l, c2 + 1, q, _, rfl, S3, by omega, Lq3.h, Lq3.n1, Lq3.n2, by decide, by decide, fun j x H4 hx B4 S4 => ?_⟩⟩
        obtain ⟨y, hy, rfl⟩ := List.mem_map.mp (List.mem_of_getElem? hx)
        exact ⟨y, x4, c2 + 1 + 1, rfl, fwords_nm y hy, (B2.trans B3).trans B4, S4, by omega⟩
      · exact ⟨_, rfl, z, x4, c2 + 1, rfl, nz, B2.trans B3, S3, by omega⟩
    rintro _ H3 ⟨z, x4, c3, rfl, nz, B3, S3, hc3⟩
    have L3 := L.but B3
    -- the spare names
    refine ⟨fun σ H' => ∃ x4 x6, σ = [some (.ref st), some (.ref p), some (.str letters), some (.ref q), x4, some (.str z), x6] ∧ H' = H3 ∧ z ∉ zs, ?_, ?_⟩
    · refine ⟨_, rfl, _, rfl, p, _, rfl, .inl (SqL.of L3.h), rfl, flat_strs zs, .inr ⟨_, rfl, _, _, rfl, rfl, .inl ⟨by decide, by decide⟩, ?_⟩⟩
      have fz : (if false = true then !inV (.str z) (zs.map V.str) else inV (.str z) (zs.map V.str)) = decide (z ∈ zs) := inV_strs z zs
      rw [fz]
      by_cases hz : z ∈ zs
      · rw [decide_eq_true hz]
        refine ⟨676, rfl, by decide, by decide, for_range (lo := 0) (n := 676) (fun i σ H' => ∃ x4 x6, σ = [some (.ref st), some (.ref p), some (.str letters), some (.ref q), x4, some (.str z), x6] ∧ H' = H3 ∧ ∀ j, j < i → spare j ∈ zs)
          ⟨x4, none, rfl, rfl, fun j hj => absurd hj (Nat.not_lt_zero j)⟩ ?_ ?_⟩
        · rintro i _ H4 hi ⟨y4, y6, rfl, rfl, hs⟩
          have q1 : (0 + (i : Int)) / 26 = ((i / 26 : Nat) : Int) := by omega
          have q2 : (0 + (i : Int)) % 26 = ((i % 26 : Nat) : Int) := by omega
          refine ⟨fun σ H' => σ = [some (.ref st), some (.ref p), some (.str letters), some (.ref q), some (.int (0 + i)), some (.str z), some (.str (spare i))] ∧ H' = H4, ?_, ?_⟩
          · refine ⟨_, rfl, _, rfl, _, _, rfl, rfl, ⟨by decide, by decide⟩, letters, _, 97 + i / 26, rfl, rfl, by decide, ?_, _, _, rfl, rfl, (show 2 ≤ sizeLine by decide), _, rfl, _, rfl, _, _, rfl, rfl, (by show (0 : Int) < 26; decide), letters, _, 97 + i % 26, rfl, rfl, by decide, ?_, _, _, rfl, rfl, (show 3 ≤ sizeLine by decide), rfl, rfl⟩
            · rw [q1]
              exact atI_nat (letter_at _ (by omega))
            · rw [q2]
              exact atI_nat (letter_at _ (by omega))
          rintro _ _ ⟨rfl, rfl⟩
          refine ⟨_, rfl, _, rfl, p, _, rfl, .inl (SqL.of L3.h), rfl, flat_strs zs, ?_⟩
          have fs : (if true = true then !inV (.str (spare i)) (zs.map V.str) else inV (.str (spare i)) (zs.map V.str)) = !decide (spare i ∈ zs) := congrArg (! ·) (inV_strs (spare i) zs)
          rw [fs]
          by_cases hsp : spare i ∈ zs
          · rw [decide_eq_true hsp]
            refine ⟨_, rfl, iteF ⟨_, _, rfl, rfl, fun j hj => ?_⟩⟩
            rcases Nat.lt_succ_iff_lt_or_eq.mp hj with g | g
            · exact hs j g
            · rw [g]
              exact hsp
          · rw [decide_eq_false hsp]
            exact ⟨_, rfl, iteT ⟨_, rfl, k _ _ c3 (spare_nm hi) hsp B3 S3 hc3⟩⟩
        · rintro _ _ ⟨y4, y6, rfl, rfl, hs⟩
          have := spares_many hs
          omega
      · rw [decide_eq_false hz]
        refine ⟨0, rfl, by decide, by decide, for_range (lo := 0) (n := 0) (fun i σ H' => ∃ x4 x6, σ = [some (.ref st), some (.ref p), some (.str letters), some (.ref q), x4, some (.str z), x6] ∧ H' = H3) ⟨x4, none, rfl, rfl⟩ (fun i _ _ hi => absurd hi (Nat.not_lt_zero i)) ?_⟩
        rintro _ _ ⟨y4, y6, rfl, rfl⟩
        exact ⟨y4, y6, rfl, rfl, hz⟩
    rintro _ _ ⟨x4, x6, rfl, rfl, nin⟩
    exact ⟨_, rfl, k z _ c3 nz nin B3 S3 hc3⟩
end
end K3

set_option maxHeartbeats 3900000
namespace K3
open PySem PySem.Spec PyProof.Rows L2 TL
open C8 (pss_cut tCut pe_gc)
def spPool : Sp := fun vs H Q _ => ∃ (st l : Addr) (c : Nat) (many : Int), vs = [.ref st, .int many] ∧ Strm H st l c ∧ c ≤ 800000 ∧ 0 ≤ many ∧ many ≤ 50 ∧
  ∀ (p : Addr) (zs : List Str) (H' : Hp) (c' : Nat), (zs.length : Int) = many → zs.Nodup → (∀ z ∈ zs, IsNm z) → H p = none → Pool H' st l p zs → But st l H H' → Strm H' st l c' → c' ≤ c + 11 * many.toNat → Q (.ref p) H'
inductive Lk
  | rd (p : List Str)
  | ls (p : List Str)
  | se (n : Str)
  | tl
deriving DecidableEq
abbrev js (p : List Str) : Str := Txt.join "/" p
def lkV : Lk → List V
  | .rd p => [.str "read", .str (js p)]
  | .ls p => [.str "list", .str (js p)]
  | .se n => [.str "setting", .str n]
  | .tl => [.str "tool"]
def LkOn (zs : List Str) (m : Nat) : Lk → Prop
  | .rd p => p ≠ [] ∧ p.length ≤ m ∧ ∀ y ∈ p, y ∈ zs
  | .ls p => p.length ≤ m ∧ ∀ y ∈ p, y ∈ zs
  | .se n => n ∈ zs
  | .tl => True
def spLook : Sp := fun vs H Q _ => ∃ (st l p : Addr) (c : Nat) (zs : List Str), vs = [.ref st, .ref p] ∧ Strm H st l c ∧ c ≤ 800000 ∧ Pool H st l p zs ∧ 0 < zs.length ∧ zs.length < 1000 ∧ (∀ z ∈ zs, IsNm z) ∧
  ∀ (t : Addr) (k : Lk) (H' : Hp) (c' : Nat), LkOn zs 3 k → H t = none → H' t = some (.tup (lkV k)) → But st l H H' → Strm H' st l c' → c' ≤ c + 6 → Q (.ref t) H'
section
variable {P : Program} {w : World} {K : PySem.W.Frag} {mg : Str → Option Value} {base : Heap} {fD fP fPa fFr : Addr} {fdD fdP fdPa fdFr : FuncData}
theorem scPo : FnScope ["_law_stream", "_law_many", "_law_found", "_law_k"] ["_law_stream", "_law_many"] (defScope sPool) := ⟨rfl, rfl, rfl, by decide +kernel, rfl, by decide +kernel, by decide +kernel⟩
theorem But.none {st l p : Addr} {H H' : Hp} (B : But st l H H') (h : H' p = Option.none) (n : p ≠ st ∧ p ≠ l) : H p = Option.none := by
  cases e : H p with
  | none => rfl
  | some o =>
    rw [B p o e n.1 n.2] at h
    cases h
theorem ok_pool {f : Addr} {fd : FuncData} (F : Fun K "_law_pool" "_law_pool" sPool f fd) (T : TB mg) (aFr : At K mg "_law_fresh" fFr fdFr ["_law_stream", "_law_taken"]) (GFr : FnOk P w K mg base CX0 3 fFr fdFr ["_law_stream", "_law_taken"] spFresh) : FnOk P w K mg base CX0 4 f fd ["_law_stream", "_law_many"] spPool := by
  refine F.ok scPo (fun vs H Q E h => ?_) (fun cdv A outer s H vs Q E hr h => ?_)
  · obtain ⟨st, l, c, many, rfl, _⟩ := h
    rfl
  · obtain ⟨st, l, c, many, rfl, S, hc, m0, m1, k⟩ := h
    obtain ⟨n, rfl⟩ := Int.eq_ofNat_of_zero_le m0
    refine ⟨_, pss_cut (ps_set (i := 2) scPo.nd rfl (Or.inl rfl) (pe_lst pa_nil))
        (pss_cut (ps_for PassesOwn.never rfl (pi_range1 rfl T.range (pa_cons (pv 1) pa_nil)) (pg_name (i := 3) scPo.nd rfl (Or.inl rfl)) (pss_one (ps_expr (pe_bm PySem.F.plainAttrs_list PySem.F.slot_list_append PySem.F.type_list_append mt_append (pv 2) (pa_cons (pe_call GFr (hr.mono (by decide)) rfl aFr.m aFr.k aFr.b .nil pass0 (pa_cons (pv 0) (pa_cons (pv 2) pa_nil))) pa_nil)))))
        (pss_one (ps_ret (pv 2)))), ?_⟩
    refine ⟨fun σ H' => ∃ p, σ = [some (.ref st), some (.int n), some (.ref p), none] ∧ H p = none ∧ H' = upd H p (.lst []), ⟨Nat.zero_le _, fun p hp => ⟨p, rfl, hp, rfl⟩⟩, ?_⟩
    rintro _ _ ⟨p, rfl, hp, rfl⟩
    have np := S.ne_new hp
    refine ⟨fun σ H' => ∃ x3 zs, σ = [some (.ref st), some (.int n), some (.ref p), x3] ∧ zs.length = n ∧ zs.Nodup ∧ (∀ z ∈ zs, IsNm z) ∧ Pool H' st l p zs ∧ But st l H H' ∧ ∃ c', Strm H' st l c' ∧ c' ≤ c + 11 * n, ?_, ?_⟩
    · refine ⟨_, rfl, n, rfl, by omega, by omega, for_range (lo := 0) (n := n) (fun i σ H' => ∃ x3 zs, σ = [some (.ref st), some (.int n), some (.ref p), x3] ∧ zs.length = i ∧ zs.Nodup ∧ (∀ z ∈ zs, IsNm z) ∧ Pool H' st l p zs ∧ But st l H H' ∧ ∃ c', Strm H' st l c' ∧ c' ≤ c + 11 * i)
        ⟨none, [], rfl, rfl, List.nodup_nil, by simp, ⟨upd_same, np.1, np.2⟩, But.same (same_new hp), c, S.up (same_new hp), by omega⟩ ?_ fun _ _ h => h⟩
      rintro i _ H1 hi ⟨x3, zs, rfl, hz, nd, nm, L, B, c1, S1, hc1⟩
      refine ⟨_, rfl, .inl ⟨rfl, _, SqL.of L.h⟩, _, rfl, _, rfl, st, l, p, c1, zs, rfl, S1, by omega, L, by omega, fun z H2 c2 nz nin B2 S2 hc2 => ?_⟩
      have L2 := L.but B2
      refine ⟨p, _, _, rfl, rfl, L2.h, ?_, _, zs ++ [z], rfl, by rw [List.length_append, hz]; rfl, List.nodup_append.mpr ⟨nd, List.nodup_cons.mpr ⟨by simp, List.nodup_nil⟩, ?_⟩, ?_, ⟨?_, L2.n1, L2.n2⟩, (B.trans B2).put hp, c2, S2.put np, by omega⟩
      · rw [List.length_map, hz]
        exact Nat.lt_of_lt_of_le (show i < 1001 by omega) (by decide)
      · intro a ha b hb e
        rw [e, List.mem_singleton.mp hb] at ha
        exact nin ha
      · intro y hy
        rcases List.mem_append.mp hy with q | q
        · exact nm y q
        · rw [List.mem_singleton.mp q]
          exact nz
      · rw [upd_same, List.map_append]
        rfl
    rintro _ H2 ⟨x3, zs, rfl, hz, nd, nm, L, B, c', S', hc'⟩
    exact ⟨_, rfl, k p zs H2 c' (by omega) nd nm hp L B S' (by omega)⟩
theorem scLo : FnScope ["_law_stream", "_law_pool_here", "_law_way"] ["_law_stream", "_law_pool_here"] (defScope sLook) := ⟨rfl, rfl, rfl, by decide +kernel, rfl, by decide +kernel, by decide +kernel⟩
theorem ok_look {f : Addr} {fd : FuncData} (F : Fun K "_law_look" "_law_look" sLook f fd) (T : TB mg) (aD : aD' K mg fD fdD) (aP : At K mg "_law_pick" fP fdP ["_law_stream", "_law_things"]) (aPa : At K mg "_law_path" fPa fdPa ["_law_stream", "_law_pool_here", "_law_most"]) (GD : FnOk P w K mg base CX0 1 fD fdD ["_law_stream", "_law_many"] spDraw)
    (GP : FnOk P w K mg base CX0 2 fP fdP ["_law_stream", "_law_things"] spPick) (GPa : FnOk P w K mg base CX0 3 fPa fdPa ["_law_stream", "_law_pool_here", "_law_most"] spPath) : FnOk P w K mg base CX0 4 f fd ["_law_stream", "_law_pool_here"] spLook := by
  refine F.ok scLo (fun vs H Q E h => ?_) (fun cdv A outer s H vs Q E hr h => ?_)
  · obtain ⟨st, l, p, c, zs, rfl, _⟩ := h
    rfl
  · obtain ⟨st, l, p, c, zs, rfl, S, hc, L, z0, z1, nm, k⟩ := h
    refine ⟨_, pss_cut (ps_set (i := 2) scLo.nd rfl (Or.inl rfl) (pe_call GD (hr.mono (by decide)) rfl aD.m aD.k aD.b .nil pass0 (pa_cons (pv 0) (pa_cons pe_int pa_nil))))
        (pss_cons (ps_if (pt_cmpR op_lt (pv 2) pe_int (nomark _)) (pss_one (ps_ret (pe_tup (pa_cons pe_str (pa_cons (pe_call GPa (hr.mono (by decide)) rfl aPa.m aPa.k aPa.b .nil pass0 (pa_cons (pv 0) (pa_cons (pv 1) (pa_cons pe_int pa_nil)))) pa_nil))))) (pss_nil))
        (pss_cons (ps_if (pt_cmpR op_lt (pv 2) pe_int (nomark _)) (pss_one (ps_ret (pe_tup (pa_cons pe_str (pa_cons (pe_ifExp (pt_cmpR op_eq (pe_call GD (hr.mono (by decide)) rfl aD.m aD.k aD.b .nil pass0 (pa_cons (pv 0) (pa_cons pe_int pa_nil))) pe_int (nomark _)) pe_str (pe_call GPa (hr.mono (by decide)) rfl aPa.m aPa.k aPa.b .nil pass0 (pa_cons (pv 0) (pa_cons (pv 1) (pa_cons pe_int pa_nil))))) pa_nil))))) (pss_nil))
        (pss_one (ps_ret (pe_ifExp (pt_cmpR op_eq (pv 2) pe_int (nomark _)) (pe_tup (pa_cons pe_str (pa_cons (pe_call GP (hr.mono (by decide)) rfl aP.m aP.k aP.b .nil pass0 (pa_cons (pv 0) (pa_cons (pv 1) pa_nil))) pa_nil))) (pe_tup (pa_cons pe_str pa_nil))))))), ?_⟩
    refine ⟨fun σ H' => ∃ d : Int, σ = [some (.ref st), some (.ref p), some (.int d)] ∧ But st l H H' ∧ Strm H' st l (c + 1), ⟨_, rfl, st, l, c, _, rfl, S, by omega, by decide, by decide, fun d H' d0 d1 B S' => ⟨d, rfl, B, S'⟩⟩, ?_⟩
    rintro _ H1 ⟨d, rfl, B1, S1⟩
    have L1 := L.but B1
    have fin : ∀ (k' : Lk) (H2 : Hp) (c2 : Nat) (t : Addr), LkOn zs 3 k' → But st l H1 H2 → Strm H2 st l c2 → c2 ≤ c + 6 → H2 t = none → Q (.ref t) (upd H2 t (.tup (lkV k'))) := fun k' H2 c2 t o B2 S2 hc2 ht =>
      k t k' _ c2 o (But.none (B1.trans B2) ht (S2.ne_new ht)) upd_same ((B1.trans B2).put (But.none (B1.trans B2) ht (S2.ne_new ht))) (S2.up (same_new ht)) hc2
    refine ⟨_, rfl, _, _, rfl, rfl, _, rfl, ite2 (fun _ => ?_) (fun _ => ?_)⟩
    · refine ⟨_, rfl, _, rfl, st, l, p, c + 1, zs, 3, rfl, S1, by omega, L1, z0, z1, nm, by decide, by decide, fun ys H2 c2 y1 y2 hy B2 S2 hc2 => ⟨by show 2 ≤ sizeLine; decide, fun t ht => ?_⟩⟩
      exact fin (.rd ys) H2 c2 t ⟨by rintro rfl; exact absurd y1 (by decide), by omega, hy⟩ B2 S2 (by omega) ht
    refine ⟨_, rfl, _, _, rfl, rfl, _, rfl, ite2 (fun _ => ?_) (fun _ => ?_)⟩
    · refine ⟨_, rfl, st, l, c + 1, _, rfl, S1, by omega, by decide, by decide, fun e H2 e0 e1 B2 S2 => ⟨rfl, _, rfl, ite2 (fun _ => ?_) (fun _ => ?_)⟩⟩
      · exact ⟨by show 2 ≤ sizeLine; decide, fun t ht => fin (.ls []) H2 _ t ⟨Nat.zero_le _, by simp⟩ B2 S2 (by omega) ht⟩
      · refine ⟨_, rfl, _, rfl, st, l, p, c + 1 + 1, zs, 2, rfl, S2, by omega, L1.but B2, z0, z1, nm, by decide, by decide, fun ys H3 c3 y1 y2 hy B3 S3 hc3 => ⟨by show 2 ≤ sizeLine; decide, fun t ht => ?_⟩⟩
        exact fin (.ls ys) H3 c3 t ⟨by omega, hy⟩ (B2.trans B3) S3 (by omega) ht
    refine ⟨_, rfl, rfl, _, rfl, ite2 (fun _ => ?_) (fun _ => ?_)⟩
    · refine ⟨_, rfl, _, rfl, .inl ⟨st, l, c + 1, p, _, rfl, S1, by omega, L1.h, L1.n1, L1.n2, by rw [List.length_map]; exact z0, by rw [List.length_map]; exact z1, fun i x H2 hx B2 S2 => ⟨by show 2 ≤ sizeLine; decide, fun t ht => ?_⟩⟩⟩
      obtain ⟨z, hz, rfl⟩ := List.mem_map.mp (List.mem_of_getElem? hx)
      exact fin (.se z) H2 _ t hz B2 S2 (by omega) ht
    · exact ⟨by show 1 ≤ sizeLine; decide, fun t ht => fin .tl H1 _ t trivial (fun _ _ e _ _ => e) S1 (by omega) ht⟩
end
end K3

set_option maxHeartbeats 3900000
namespace K3
open PySem PySem.Spec PyProof.Rows L2 TL
theorem tl_sl : tl ("/" : Str) = [47] := by decide +kernel
def Nms (p : List Str) : Prop := ∀ y ∈ p, IsNm y
instance (p : List Str) : Decidable (Nms p) := by unfold Nms; infer_instance
abbrev jl (p : List Str) : List Nat := joinL [47] (p.map tl)
theorem tl_js (p : List Str) : tl (js p) = jl p := by
  show tl (Txt.join "/" p) = jl p
  rw [join_eq, tl_join, tl_sl]
theorem nm_free {y : Str} (h : IsNm y) : 47 ∉ tl y := fun m => by
  have := h.2.2 47 m
  omega
theorem nm_ne {y : Str} (h : IsNm y) : tl y ≠ [] := fun e => by
  have h1 := h.1
  rw [len_tl, e] at h1
  exact absurd h1 (by decide)
theorem Nms.tail {y : Str} {p : List Str} (h : Nms (y :: p)) : Nms p := fun z hz => h z (List.mem_cons_of_mem _ hz)
theorem Nms.app {p q : List Str} (hp : Nms p) (hq : Nms q) : Nms (p ++ q) := fun z hz => (List.mem_append.mp hz).elim (hp z) (hq z)
theorem Nms.right {p q : List Str} (h : Nms (p ++ q)) : Nms q := fun z hz => h z (List.mem_append_right _ hz)
theorem jl_app : ∀ {q r : List Str}, q ≠ [] → r ≠ [] → jl (q ++ r) = jl q ++ 47 :: jl r
  | [], _, h, _ => absurd rfl h
  | [y], [], _, h => absurd rfl h
  | [y], z :: r, _, _ => rfl
  | y :: z :: q, r, _, hr => by
    have ih := jl_app (q := z :: q) (r := r) (by simp) hr
    show tl y ++ ([47] ++ jl (z :: q ++ r)) = (tl y ++ ([47] ++ jl (z :: q))) ++ 47 :: jl r
    rw [ih]
    simp
theorem jl_ne {p : List Str} (hp : Nms p) (h : p ≠ []) : jl p ≠ [] := by
  match p, h with
  | y :: r, _ =>
    intro e
    have hy := nm_ne (hp y List.mem_cons_self)
    cases r with
    | nil => exact hy e
    | cons z r =>
      have e2 : tl y ++ ([47] ++ jl (z :: r)) = [] := e
      exact hy (List.append_eq_nil_iff.mp e2).1
theorem split_js {p : List Str} (hp : Nms p) (h : p ≠ []) : Txt.split (js p) "/" = p :=
  split_join (s := 47) (S := []) tl_sl (by decide +kernel) h fun y hy => nm_free (hp y hy)
theorem js_one (y : Str) : js [y] = y := ext_tl (by rw [tl_js]; rfl)
theorem js_ne {p : List Str} (hp : Nms p) (h : p ≠ []) : js p ≠ "" := fun e => by
  have e2 := congrArg tl e
  rw [tl_js] at e2
  exact jl_ne hp h e2
theorem js_inj {p q : List Str} (hp : Nms p) (hq : Nms q) (e : js p = js q) : p = q := by
  by_cases h1 : p = []
  · by_cases h2 : q = []
    · rw [h1, h2]
    · rw [h1] at e
      exact absurd e.symm (js_ne hq h2)
  · by_cases h2 : q = []
    · rw [h2] at e
      exact absurd e (js_ne hp h1)
    · rw [← split_js hp h1, e, split_js hq h2]
theorem js_eq {p q : List Str} (hp : Nms p) (hq : Nms q) : decide (js p = js q) = decide (p = q) := by
  by_cases h : p = q
  · rw [h]
    simp
  · rw [decide_eq_false h, decide_eq_false fun e => h (js_inj hp hq e)]
def ben (p q : List Str) : Bool := q.isPrefixOf p && decide (q.length < p.length)
theorem ben_iff {p q : List Str} : ben p q = true ↔ ∃ r, r ≠ [] ∧ p = q ++ r := by
  unfold ben
  rw [Bool.and_eq_true, List.isPrefixOf_iff_prefix, decide_eq_true_iff]
  constructor
  · rintro ⟨⟨r, rfl⟩, h⟩
    refine ⟨r, ?_, rfl⟩
    rintro rfl
    simp at h
  · rintro ⟨r, hr, rfl⟩
    refine ⟨⟨r, rfl⟩, ?_⟩
    have := List.length_pos_iff.mpr hr
    rw [List.length_append]
    omega
theorem spl_ne (S : List Nat) : ∀ (k : Nat) (acc l : List Nat), spl S k acc l ≠ []
  | k, acc, [] => by
    rw [spl_nil]
    simp
  | 0, acc, c :: r => by
    unfold spl
    by_cases h : pre S (c :: r) = true
    · rw [if_pos h]
      simp
    · rw [if_neg h]
      exact spl_ne S 0 _ r
  | k + 1, acc, _ :: r => spl_ne S k acc r
theorem spl_pre : ∀ {q : List Str} {t : List Nat}, q ≠ [] → Nms q → spl [47] 0 [] (jl q ++ 47 :: t) = q.map tl ++ spl [47] 0 [] t
  | [], _, h, _ => absurd rfl h
  | [y], t, _, hq => by
    have e := spl_part1 (s := 47) (S := []) (acc := []) (p := tl y) (rest := t) (nm_free (hq y List.mem_cons_self))
    exact e
  | y :: z :: r, t, _, hq => by
    have e := spl_part1 (s := 47) (S := []) (acc := []) (p := tl y) (rest := jl (z :: r) ++ 47 :: t) (nm_free (hq y List.mem_cons_self))
    have ih := spl_pre (q := z :: r) (t := t) (by simp) hq.tail
    have e2 : jl (y :: z :: r) ++ 47 :: t = tl y ++ ([47] ++ (jl (z :: r) ++ 47 :: t)) := by
      show tl y ++ ([47] ++ jl (z :: r)) ++ 47 :: t = _
      simp
    rw [e2]
    refine e.trans ?_
    rw [ih]
    rfl
theorem spl_js {p : List Str} (hp : Nms p) (h : p ≠ []) : spl [47] 0 [] (jl p) = p.map tl :=
  spl_join (s := 47) (S := []) (by simpa using h) fun z hz => by
    obtain ⟨y, hy, rfl⟩ := List.mem_map.mp hz
    exact nm_free (hp y hy)
theorem under {p q : List Str} (hp : Nms p) (hq : Nms q) (h : q ≠ []) : (jl q ++ [47]) <+: jl p ↔ ben p q = true := by
  rw [ben_iff]
  constructor
  · rintro ⟨t, e⟩
    have e1 : jl p = jl q ++ 47 :: t := by
      rw [← e]
      simp
    have hp0 : p ≠ [] := by
      rintro rfl
      have : ([] : List Nat) = jl q ++ 47 :: t := e1
      simp at this
    have e2 := spl_js hp hp0
    rw [e1, spl_pre h hq] at e2
    have e3 : (p.take q.length).map tl = q.map tl := by
      rw [List.map_take, ← e2]
      rw [show q.length = (q.map tl).length by rw [List.length_map], List.take_left']
      rfl
    have e4 := map_tl_inj e3
    refine ⟨p.drop q.length, ?_, ?_⟩
    · intro z
      have z2 : p.length ≤ q.length := List.drop_eq_nil_iff.mp z
      have z3 := congrArg List.length e2
      rw [List.length_append, List.length_map, List.length_map] at z3
      have z4 := List.length_pos_iff.mpr (spl_ne [47] 0 [] t)
      omega
    · conv => lhs; rw [← List.take_append_drop q.length p]
      rw [e4]
  · rintro ⟨r, hr, rfl⟩
    rw [jl_app h hr]
    exact ⟨jl r, by simp⟩
theorem sw_pre (x y : Str) : Txt.startswith x y = (tl y).isPrefixOf (tl x) := by
  show (decide (0 + y.length ≤ x.length) && Builtin.Str.subAt x y 0) = _
  rw [PySem.StrLaws.subAt_eq]
  apply Bool.eq_iff_iff.mpr
  rw [Bool.and_eq_true, List.isPrefixOf_iff_prefix, decide_eq_true_iff, List.drop_zero, beq_iff_eq, List.prefix_iff_eq_take]
  constructor
  · rintro ⟨_, h⟩
    rw [len_tl] at h
    exact h.symm
  · intro h
    refine ⟨?_, by rw [len_tl]; exact h.symm⟩
    have := congrArg List.length h
    rw [List.length_take] at this
    rw [len_tl, len_tl]
    omega
theorem sw_js {p q : List Str} (hp : Nms p) (hq : Nms q) (h : q ≠ []) : Txt.startswith (js p) (js q ++ "/") = ben p q := by
  rw [sw_pre, tl_append, tl_js, tl_js, tl_sl]
  apply Bool.eq_iff_iff.mpr
  rw [List.isPrefixOf_iff_prefix]
  exact under hp hq h
theorem tl_cutS (z : Str) (lo hi : Option Int) : tl (cutS z lo hi) = ((tl z).drop (HT.sIx z.length 0 lo)).take (HT.sIx z.length z.length hi - HT.sIx z.length 0 lo) := rfl
end K3

set_option maxHeartbeats 3900000
namespace K3
open PySem PySem.Spec PyProof.Rows L2 TL
theorem cut_from (z : Str) (n : Nat) : tl (cutS z (some (n : Int)) none) = (tl z).drop n := by
  rw [tl_cutS, HT.sIx_nat, HT.sIx_none, len_tl]
  rw [List.take_of_length_le (by rw [List.length_drop]; exact Nat.le_refl _)]
  by_cases h : n ≤ (tl z).length
  · rw [Nat.min_eq_left h]
  · rw [Nat.min_eq_right (by omega), List.drop_eq_nil_of_le (Nat.le_refl _), List.drop_eq_nil_of_le (by omega)]
theorem cut_to (z : Str) (n : Nat) : tl (cutS z none (some (n : Int))) = (tl z).take n := by
  rw [tl_cutS, HT.sIx_nat, HT.sIx_none, List.drop_zero, Nat.sub_zero, len_tl]
  by_cases h : n ≤ (tl z).length
  · rw [Nat.min_eq_left h]
  · rw [Nat.min_eq_right (by omega), List.take_of_length_le (Nat.le_refl _), List.take_of_length_le (by omega)]
theorem cut_last (z : Str) : tl (cutS z (some (-1)) none) = (tl z).drop ((tl z).length - 1) := by
  rw [tl_cutS, HT.sIx_none, len_tl]
  have e : HT.sIx (tl z).length 0 (some (-1)) = (tl z).length - 1 := by
    show (if (-1 : Int) < 0 then ((-1 : Int) + ((tl z).length : Int)).toNat else min (-1 : Int).toNat (tl z).length) = _
    rw [if_pos (by decide)]
    omega
  rw [e]
  rw [List.take_of_length_le (by rw [List.length_drop]; exact Nat.le_refl _)]
def bg (p : List Str) : Str := if p = [] then "" else js p ++ "/"
theorem bg_str (p : List Str) (hp : Nms p) : (if decide (js p = "") = true then ("" : Str) else js p ++ "/") = bg p := by
  unfold bg
  by_cases h : p = []
  · rw [if_pos h, h]
    rfl
  · rw [if_neg h, decide_eq_false (js_ne hp h)]
    rfl
theorem sw_bg {p q : List Str} (hp : Nms p) (hq : Nms q) : (decide (p ≠ q) && Txt.startswith (js p) (bg q)) = ben p q := by
  unfold bg
  by_cases h : q = []
  · rw [if_pos h, h, sw_pre]
    have e : tl ("" : Str) = [] := rfl
    rw [e]
    unfold ben
    cases p with
    | nil => rfl
    | cons y r => simp
  · rw [if_neg h, sw_js hp hq h]
    by_cases e : p = q
    · rw [e]
      simp [ben]
    · rw [decide_eq_true e, Bool.true_and]
theorem jl_drop {q r : List Str} (hq : q ≠ []) (hr : r ≠ []) : (jl (q ++ r)).drop ((jl q).length + 1) = jl r := by
  rw [jl_app hq hr]
  rw [show jl q ++ 47 :: jl r = (jl q ++ [47]) ++ jl r by simp]
  rw [show (jl q).length + 1 = (jl q ++ [47]).length by simp, List.drop_left']
  rfl
theorem bg_len (q : List Str) : (bg q).length = if q = [] then 0 else (jl q).length + 1 := by
  unfold bg
  by_cases h : q = []
  · rw [if_pos h, if_pos h]
    rfl
  · rw [if_neg h, if_neg h, len_tl, tl_append, tl_js, tl_sl]
    simp
theorem rest_bg (q : List Str) {r : List Str} (hr : r ≠ []) : cutS (js (q ++ r)) (some ((bg q).length : Int)) none = js r := by
  refine ext_tl ?_
  rw [cut_from, tl_js, tl_js, bg_len]
  by_cases h : q = []
  · rw [if_pos h, h]
    rfl
  · rw [if_neg h, jl_drop h hr]
theorem head_bg {p q : List Str} (hp : Nms p) (hq : Nms q) (h : q ≠ []) : decide (cutS (js p) none (some (((js q).length + 1 : Nat) : Int)) = js q ++ "/") = ben p q := by
  have e9 : (jl q ++ [47]).length = (jl q).length + 1 := by simp
  have e : (cutS (js p) none (some (((js q).length + 1 : Nat) : Int)) = js q ++ "/") ↔ (jl q ++ [47]) <+: jl p := by
    rw [List.prefix_iff_eq_take]
    constructor
    · intro z
      have z2 := congrArg tl z
      rw [cut_to, tl_append, tl_js, tl_js, tl_sl, len_tl, tl_js] at z2
      rw [e9]
      exact z2.symm
    · intro z
      refine ext_tl ?_
      rw [cut_to, tl_append, tl_js, tl_js, tl_sl, len_tl, tl_js]
      rw [e9] at z
      exact z.symm
  rw [decide_eq_decide.mpr e]
  apply Bool.eq_iff_iff.mpr
  rw [decide_eq_true_iff]
  exact under hp hq h
theorem js_cons (y : Str) {r : List Str} (h : r ≠ []) : js (y :: r) = y ++ "/" ++ js r := by
  refine ext_tl ?_
  rw [tl_js, tl_append, tl_append, tl_js, tl_sl]
  show jl ([y] ++ r) = _
  rw [jl_app (by simp) h]
  show tl y ++ 47 :: jl r = _
  simp
theorem js_app {q r : List Str} (hq : q ≠ []) (hr : r ≠ []) : js (q ++ r) = js q ++ "/" ++ js r := by
  refine ext_tl ?_
  rw [tl_js, tl_append, tl_append, tl_js, tl_js, tl_sl, jl_app hq hr]
  simp
theorem bg_app (q : List Str) {r : List Str} (hr : r ≠ []) : bg q ++ js r = js (q ++ r) := by
  unfold bg
  by_cases h : q = []
  · rw [if_pos h, h]
    exact ext_tl (by rw [tl_append]; rfl)
  · rw [if_neg h, js_app h hr]
theorem part_js {y : Str} {r : List Str} (hy : IsNm y) : Txt.partition (js (y :: r)) "/" = if r = [] then (y, ("" : Str), ("" : Str)) else (y, ("/" : Str), js r) := by
  by_cases h : r = []
  · rw [if_pos h, h, js_one]
    exact partition_none tl_sl (nm_free hy)
  · rw [if_neg h, js_cons y h]
    exact partition_app tl_sl (nm_free hy)
def ent (n : Str) (b : Bool) : Str := if b = true then n ++ "/" else n
theorem tl_ent (n : Str) (b : Bool) : tl (ent n b) = tl n ++ if b = true then [47] else [] := by
  unfold ent
  cases b
  · simp
  · rw [if_pos rfl, tl_append, tl_sl, if_pos rfl]
theorem ent_inj {n m : Str} {b c : Bool} (hn : IsNm n) (hm : IsNm m) (e : ent n b = ent m c) : n = m ∧ b = c := by
  have h := congrArg tl e
  rw [tl_ent, tl_ent] at h
  cases b <;> cases c
  · simp only [Bool.false_eq_true, if_false, List.append_nil] at h
    exact ⟨ext_tl h, rfl⟩
  · simp only [Bool.false_eq_true, if_false, List.append_nil, if_true] at h
    exact absurd (by rw [h]; simp) (nm_free hn)
  · simp only [Bool.false_eq_true, if_false, List.append_nil, if_true] at h
    exact absurd (by rw [← h]; simp) (nm_free hm)
  · simp only [if_true] at h
    exact ⟨ext_tl (List.append_cancel_right h), rfl⟩
theorem ew (x y : Str) : Txt.endswith x y = (decide ((tl y).length ≤ (tl x).length) && decide ((tl x).drop ((tl x).length - (tl y).length) = tl y)) := by
  show (decide (0 + y.length ≤ x.length) && Builtin.Str.subAt x y (x.length - y.length)) = _
  rw [PySem.StrLaws.subAt_eq, len_tl, len_tl, Nat.zero_add]
  by_cases h : (tl y).length ≤ (tl x).length
  · rw [decide_eq_true h, Bool.true_and, Bool.true_and]
    have e : (((tl x).drop ((tl x).length - (tl y).length)).take (tl y).length) = (tl x).drop ((tl x).length - (tl y).length) := List.take_of_length_le (by rw [List.length_drop]; omega)
    have e5 : (((tl x).drop ((tl x).length - (tl y).length)).take (tl y).length == tl y) = ((tl x).drop ((tl x).length - (tl y).length) == tl y) := by rw [e]
    refine e5.trans ?_
    apply Bool.eq_iff_iff.mpr
    rw [beq_iff_eq, decide_eq_true_iff]
  · rw [decide_eq_false h]
    rfl
theorem last_drop (u : List Nat) (c : Nat) : (u ++ [c]).drop ((u ++ [c]).length - 1) = [c] := by
  rw [show (u ++ [c]).length - 1 = u.length by simp, List.drop_left']
  rfl
theorem last_free {u : List Nat} (h : 47 ∉ u) : u.drop (u.length - 1) ≠ [47] := fun e => h (by
  have : 47 ∈ u.drop (u.length - 1) := by
    rw [e]
    simp
  exact List.mem_of_mem_drop this)
theorem ew_ent {n : Str} (hn : IsNm n) (b : Bool) : Txt.endswith (ent n b) "/" = b := by
  rw [ew, tl_sl, tl_ent]
  cases b
  · simp only [Bool.false_eq_true, if_false, List.append_nil]
    rw [decide_eq_false (p := (tl n).drop ((tl n).length - [47].length) = [47]) (last_free (nm_free hn)), Bool.and_false]
  · simp only [if_true]
    rw [decide_eq_true (by simp), Bool.true_and]
    exact decide_eq_true (last_drop _ _)
theorem cut_ent {n : Str} (hn : IsNm n) (b : Bool) : decide (cutS (ent n b) (some (-1)) none = "/") = b := by
  cases b
  · refine decide_eq_false fun e => ?_
    have e2 := congrArg tl e
    rw [cut_last, tl_ent, tl_sl] at e2
    simp only [Bool.false_eq_true, if_false, List.append_nil] at e2
    exact last_free (nm_free hn) e2
  · refine decide_eq_true (ext_tl ?_)
    rw [cut_last, tl_ent, tl_sl]
    simp only [if_true]
    exact last_drop _ _
theorem tl_sub (x : Str) (i j : Nat) : tl (Builtin.Str.strSub x i j) = ((tl x).drop i).take (j - i) := tl_strSub x i j
theorem rms {x y : Str} (h : Txt.endswith x y = true) : tl (Txt.removesuffix x y) = (tl x).take ((tl x).length - (tl y).length) := by
  have h2 : (decide (y.length ≤ x.length) && Builtin.Str.subAt x y (x.length - y.length)) = true := by
    rw [← h]
    show _ = (decide (0 + y.length ≤ x.length) && Builtin.Str.subAt x y (x.length - y.length))
    rw [Nat.zero_add]
  show tl (Txt.affix x (if (decide (y.length ≤ x.length) && Builtin.Str.subAt x y (x.length - y.length)) = true then some (0, x.length - y.length) else none)) = _
  rw [if_pos h2]
  show tl (if x.length - y.length - 0 == x.length then x else Builtin.Str.strSub x 0 (x.length - y.length)) = _
  rw [len_tl, len_tl]
  by_cases e : ((tl x).length - (tl y).length - 0 == (tl x).length) = true
  · rw [if_pos e]
    rw [beq_iff_eq] at e
    rw [List.take_of_length_le (by omega)]
  · rw [if_neg e, tl_sub, List.drop_zero]
    rfl
theorem rms_no {x y : Str} (h : Txt.endswith x y = false) : Txt.removesuffix x y = x := by
  have h2 : (decide (y.length ≤ x.length) && Builtin.Str.subAt x y (x.length - y.length)) = false := by
    rw [← h]
    show _ = (decide (0 + y.length ≤ x.length) && Builtin.Str.subAt x y (x.length - y.length))
    rw [Nat.zero_add]
  show Txt.affix x (if (decide (y.length ≤ x.length) && Builtin.Str.subAt x y (x.length - y.length)) = true then some (0, x.length - y.length) else none) = _
  rw [if_neg (by rw [h2]; simp)]
  rfl
theorem rms_ent {n : Str} (hn : IsNm n) (b : Bool) : Txt.removesuffix (ent n b) "/" = n := by
  cases b
  · exact rms_no (ew_ent hn false)
  · refine ext_tl ?_
    rw [rms (ew_ent hn true), tl_ent, tl_sl]
    simp
theorem tw_free {u r : List Nat} (h0 : u.head? ≠ some 47) (h : u ≠ []) : (u ++ r).takeWhile (fun c => c == 47) = [] := by
  match u, h with
  | c :: u, _ =>
    rw [List.cons_append, List.takeWhile_cons_of_neg]
    intro z
    exact h0 (by rw [List.head?_cons, beq_iff_eq.mp z])
theorem tw_rep (k : Nat) (r : List Nat) (h : r.head? ≠ some 47) : (List.replicate k 47 ++ r).takeWhile (fun c => c == 47) = List.replicate k 47 := by
  induction k with
  | zero =>
    rw [List.replicate_zero, List.nil_append]
    by_cases e : r = []
    · rw [e]
      rfl
    · have := tw_free (r := []) h e
      rw [List.append_nil] at this
      exact this
  | succ k ih => rw [List.replicate_succ, List.cons_append, List.takeWhile_cons_of_pos rfl, ih]
theorem strip_core {x : Str} {u : List Nat} {k : Nat} (h0 : u.head? ≠ some 47) (h1 : u.getLast? ≠ some 47) (hx : tl x = u ++ List.replicate k 47) : tl (Txt.stripChars x "/") = u := by
  have g : (("/" : Str).cps.contains : Nat → Bool) = fun c => c == 47 := by
    funext c
    have e : ("/" : Str).cps = #[47] := by decide +kernel
    rw [e]
    apply Bool.eq_iff_iff.mpr
    rw [Array.contains_iff_mem, beq_iff_eq]
    simp
  show tl (Txt.stripBy ("/" : Str).cps.contains true true x) = u
  rw [stripBy_eq, tl_sub, g]
  show ((tl x).drop ((tl x).takeWhile fun c => c == 47).length).take ((x.length - (((tl x).drop ((tl x).takeWhile fun c => c == 47).length).reverse.takeWhile fun c => c == 47).length) - ((tl x).takeWhile fun c => c == 47).length) = u
  rw [len_tl, hx]
  by_cases e : u = []
  · rw [e, List.nil_append]
    have t := tw_rep k [] (by simp)
    rw [List.append_nil] at t
    rw [t, List.length_replicate, List.drop_eq_nil_of_le (by rw [List.length_replicate]; exact Nat.le_refl _)]
    exact List.take_nil
  · rw [tw_free h0 e]
    show ((u ++ List.replicate k 47).drop 0).take (((u ++ List.replicate k 47).length - (((u ++ List.replicate k 47).drop 0).reverse.takeWhile fun c => c == 47).length) - 0) = u
    rw [List.drop_zero, List.reverse_append, List.reverse_replicate, tw_rep k u.reverse (by rw [List.head?_reverse]; exact h1), List.length_replicate, List.length_append, List.length_replicate, Nat.add_sub_cancel, Nat.sub_zero, List.take_left']
    rfl
theorem jl_head : ∀ {p : List Str}, Nms p → (jl p).head? ≠ some 47
  | [], _ => by intro q; cases q
  | y :: r, h => by
    have hy := h y List.mem_cons_self
    have e : ∃ t, jl (y :: r) = tl y ++ t := by
      cases r with
      | nil => exact ⟨[], (List.append_nil _).symm⟩
      | cons z r => exact ⟨_, rfl⟩
    obtain ⟨t, e⟩ := e
    rw [e]
    intro q
    match h2 : tl y with
    | [] => exact nm_ne hy h2
    | c :: u =>
      rw [h2, List.cons_append, List.head?_cons] at q
      refine nm_free hy ?_
      rw [h2, Option.some.inj q]
      exact List.mem_cons_self
theorem jl_last : ∀ {p : List Str}, Nms p → (jl p).getLast? ≠ some 47
  | [], _ => by intro q; cases q
  | [y], h => fun q => nm_free (h y List.mem_cons_self) (List.mem_of_getLast? q)
  | y :: z :: r, h => by
    have ih := jl_last (p := z :: r) h.tail
    show (tl y ++ ([47] ++ jl (z :: r))).getLast? ≠ some 47
    rw [List.getLast?_append, List.getLast?_append]
    intro q
    match e : (jl (z :: r)).getLast? with
    | none => exact jl_ne h.tail (by simp) (List.getLast?_eq_none_iff.mp e)
    | some c =>
      rw [e] at q
      exact ih (by rw [e]; exact q)
theorem strip_ent {n : Str} (hn : IsNm n) (b : Bool) : Txt.stripChars (ent n b) "/" = n := by
  refine ext_tl (strip_core (k := if b = true then 1 else 0) ?_ ?_ ?_)
  · have := jl_head (p := [n]) (by simpa [Nms] using hn)
    exact this
  · have := jl_last (p := [n]) (by simpa [Nms] using hn)
    exact this
  · rw [tl_ent]
    cases b <;> rfl
end K3

set_option maxHeartbeats 3900000
namespace K3
open PySem PySem.Spec PyProof.Rows L2 TL
open C8 (pss_cut tCut pe_gc)
open CB
abbrev sIsName : Stmt := top 11
abbrev sIsPath : Stmt := top 12
abbrev sIsPlace : Stmt := top 13
abbrev sBeg : Stmt := top 14
abbrev sBen : Stmt := top 15
abbrev sAt : Stmt := top 16
abbrev sRest : Stmt := top 17
def Sh (z : Str) : Prop := z.length ≤ 1000
theorem Sh.line {z : Str} (h : Sh z) : z.length ≤ sizeLine := Nat.le_trans h (by decide)
theorem js_len : ∀ {p : List Str}, Nms p → (js p).length ≤ 9 * p.length
  | [], _ => Nat.le_of_eq rfl
  | [y], h => by
    rw [js_one]
    have := (h y List.mem_cons_self).2.1
    show y.length ≤ 9
    omega
  | y :: z :: r, h => by
    have ih := js_len (p := z :: r) h.tail
    have := (h y List.mem_cons_self).2.1
    rw [js_cons y (by simp), len_tl, tl_append, tl_append, List.length_append, List.length_append, tl_sl, ← len_tl, ← len_tl]
    show y.length + 1 + (js (z :: r)).length ≤ _
    rw [List.length_cons (a := y)]
    omega
theorem js_sh {p : List Str} (h : Nms p) (hl : p.length ≤ 100) : Sh (js p) := by
  have := js_len h
  unfold Sh
  omega
theorem nm_sh {y : Str} (h : IsNm y) : Sh y := by
  have := h.2.1
  unfold Sh
  omega
structure TPk (mg : Str → Option Value) : Prop where
  b : TB mg
  STROKE : ∃ t, mg "STROKE" = some (.str "/" t)
  ROOT : ∃ t, mg "ROOT" = some (.str "" t)
  LETTERS : ∃ t, mg "LETTERS" = some (.str letters t)
  LONGEST : ∃ t, mg "LONGEST" = some (.int 8 t)
def spS1 (C : Str → Prop) (g : Str → V) : Sp := fun vs H Q _ => ∃ z, vs = [.str z] ∧ C z ∧ ∀ H', Same H H' → Q (g z) H'
def spS2 (C : Str → Str → Prop) (g : Str → Str → V) : Sp := fun vs H Q _ => ∃ x y, vs = [.str x, .str y] ∧ C x y ∧ ∀ H', Same H H' → Q (g x y) H'
def begS (z : Str) : Str := if decide (z = "") = true then "" else z ++ "/"
theorem begS_js {p : List Str} (h : Nms p) : begS (js p) = bg p := bg_str p h
def benS (x y : Str) : Bool := (!decide (x = y)) && Txt.startswith x (begS y)
theorem benS_js {p q : List Str} (hp : Nms p) (hq : Nms q) : benS (js p) (js q) = ben p q := by
  unfold benS
  rw [begS_js hq, js_eq hp hq, ← sw_bg hp hq]
  by_cases e : p = q <;> simp [e]
abbrev spIsName : Sp := spS1 Sh fun z => .bl (decide (IsNm z))
def spIsPath : Sp := fun vs H Q _ => ∃ p, vs = [.str (js p)] ∧ Nms p ∧ p.length ≤ 100 ∧ ∀ H', Same H H' → Q (.bl (decide (p ≠ []))) H'
def spIsPlace : Sp := fun vs H Q _ => ∃ p, vs = [.str (js p)] ∧ Nms p ∧ p.length ≤ 100 ∧ ∀ H', Same H H' → Q (.bl true) H'
abbrev spBeg : Sp := spS1 Sh fun z => .str (begS z)
abbrev spBen : Sp := spS2 (fun x y => Sh x ∧ Sh y) fun x y => .bl (benS x y)
abbrev spAt : Sp := spS2 (fun x y => Sh x ∧ Sh y) fun x y => .bl (decide (x = y) || benS x y)
abbrev spRest : Sp := spS2 (fun x y => Sh x ∧ Sh y) fun x y => .str (cutS x (some ((begS y).length : Int)) none)
theorem isNm_eq (z : Str) : decide (IsNm z) = (decide (1 ≤ z.length) && decide (z.length ≤ 8) && (tl z).all fun c => decide (c ∈ letters.cps.toList)) := by
  apply Bool.eq_iff_iff.mpr
  rw [decide_eq_true_iff, Bool.and_eq_true, Bool.and_eq_true, decide_eq_true_iff, decide_eq_true_iff, List.all_eq_true]
  constructor
  · rintro ⟨h1, h2, h3⟩
    refine ⟨⟨h1, h2⟩, fun c hc => decide_eq_true ?_⟩
    obtain ⟨a, b⟩ := h3 c hc
    have := letter_at (c - 97) (by omega)
    rw [show 97 + (c - 97) = c by omega] at this
    exact List.mem_of_getElem? this
  · rintro ⟨⟨h1, h2⟩, h3⟩
    exact ⟨h1, h2, fun c hc => letters_all c (of_decide_eq_true (h3 c hc))⟩
section
variable {P : Program} {w : World} {K : PySem.W.Frag} {mg : Str → Option Value} {base : Heap}
theorem scIsName : FnScope ["thing", "letter"] ["thing"] (defScope sIsName) := ⟨rfl, rfl, rfl, by decide +kernel, rfl, by decide +kernel, by decide +kernel⟩
theorem ok_isName {f : Addr} {fd : FuncData} (F : Fun K "is_name" "is_name" sIsName f fd) (T0 : TPk mg) : FnOk P w K mg base CX0 1 f fd ["thing"] spIsName := by
  have T := T0.b
  obtain ⟨t1, mLETTERS⟩ := T0.LETTERS
  obtain ⟨t2, mLONGEST⟩ := T0.LONGEST
  refine F.ok scIsName (fun vs H Q E h => ?_) (fun cdv A outer s H vs Q E hr h => ?_)
  · obtain ⟨z, rfl, _⟩ := h
    rfl
  · obtain ⟨z, rfl, hz, k⟩ := h
    refine ⟨_, pss_cons (ps_if (PW.pt (pw_or (pt_not (pt_val (pe_callB call_isi (by rfl) T.isinstance (by decide +kernel) (pa_cons (pv 0) (pa_cons (pe_bltn (v := .ty "str") (by rfl) T.str (by decide +kernel) rfl) pa_nil))))) (pw_or1 (pt_not (pt_chain op_le op_le pe_int (pe_callB call_len_str (by rfl) T.len PySem.boot_len (pa_cons (pv 0) pa_nil)) (pe_glob (v := .int 8) rfl mLONGEST ⟨_, rfl⟩)))))) (pss_one (ps_ret pe_bl)) (pss_nil))
        (pss_one (ps_ret (pe_callB (cr_all rfl) (by rfl) T.all boot_all (pa_cons (pe_lc (own := [("letter", 1)]) (g := gName 1) (tt := tYes) rfl scIsName.nd (pi_str (pv 0)) (blkOk_by (own := [("letter", 1)]) (N := ["thing", "letter"]) (sc := defScope sIsName) (by decide +kernel)) (fun _ _ _ _ _ => (pg_name (i := 1) scIsName.nd rfl (Or.inl rfl))) (fun _ _ _ _ _ => pts_nil) (fun _ _ _ _ _ => (pe_cmpR op_in_sign (pv 1) (pe_glob (v := .str letters) rfl mLETTERS ⟨_, rfl⟩) (by rfl)))) pa_nil)))), ?_⟩
    refine ⟨_, rfl, _, _, .type "str", .type "str", true, rfl, .ty "str", .base (.str _), kit_ty (by decide +kernel), _, rfl, iteF ⟨_, rfl, _, rfl, hz.line, _, _, rfl, rfl, _, rfl, ?_⟩⟩
    have k : ∀ H', Same H H' → Q (.bl (decide (IsNm z))) H' := k
    rw [isNm_eq] at k
    by_cases h1 : 1 ≤ z.length
    · rw [decide_eq_true (show (1 : Int) ≤ (z.length : Int) by omega)]
      rw [decide_eq_true h1, Bool.true_and] at k
      refine iteT ⟨_, _, rfl, rfl, _, rfl, ?_⟩
      by_cases h8 : z.length ≤ 8
      · rw [decide_eq_true (show ((z.length : Nat) : Int) ≤ (8 : Int) by omega)]
        rw [decide_eq_true h8, Bool.true_and] at k
        refine iteF ⟨_, rfl, z, rfl, fun D hD => ?_⟩
        refine lc_mapS z (fun c => .bl (decide (c ∈ letters.cps.toList))) (by omega) hD ?_ ?_
        · intro c hc H2 s2 Q1 k1
          exact ⟨_, rfl, c, letters, rfl, rfl, k1 H2 (Same.refl H2)⟩
        · intro H' s' hD'
          exact all_of _ _ hD' (k H' s')
      · rw [decide_eq_false (show ¬ ((z.length : Nat) : Int) ≤ (8 : Int) by omega)]
        rw [decide_eq_false h8, Bool.false_and] at k
        exact iteT (k H (Same.refl H))
    · rw [decide_eq_false (show ¬ (1 : Int) ≤ (z.length : Int) by omega)]
      rw [decide_eq_false h1, Bool.false_and, Bool.false_and] at k
      exact iteF ⟨_, rfl, iteT (k H (Same.refl H))⟩
theorem scIsPath : FnScope ["thing", "part"] ["thing"] (defScope sIsPath) := ⟨rfl, rfl, rfl, by decide +kernel, rfl, by decide +kernel, by decide +kernel⟩
theorem ok_isPath {f fN : Addr} {fd fdN : FuncData} (F : Fun K "is_path" "is_path" sIsPath f fd) (T0 : TPk mg) (aIsName : At K mg "is_name" fN fdN ["thing"]) (GIsName : FnOk P w K mg base CX0 1 fN fdN ["thing"] spIsName) : FnOk P w K mg base CX0 2 f fd ["thing"] spIsPath := by
  have T := T0.b
  obtain ⟨t1, mSTROKE⟩ := T0.STROKE
  refine F.ok scIsPath (fun vs H Q E h => ?_) (fun cdv A outer s H vs Q E hr h => ?_)
  · obtain ⟨z, rfl, _⟩ := h
    rfl
  · obtain ⟨p, rfl, hp, hl, k⟩ := h
    refine ⟨_, pss_one (ps_ret (pe_and (pe_callB call_isi (by rfl) T.isinstance (by decide +kernel) (pa_cons (pv 0) (pa_cons (pe_bltn (v := .ty "str") (by rfl) T.str (by decide +kernel) rfl) pa_nil))) (pe_one (pe_callB (cr_all rfl) (by rfl) T.all boot_all (pa_cons (pe_lc (own := [("part", 1)]) (g := gName 1) (tt := tYes) rfl scIsPath.nd (pi_list (pe_bm PySem.F.plainAttrs_str PySem.F.slot_str_split PySem.F.type_str_split mt_split (pv 0) (pa_cons (pe_glob (v := .str "/") rfl mSTROKE ⟨_, rfl⟩) pa_nil))) (blkOk_by (own := [("part", 1)]) (N := ["thing", "part"]) (sc := defScope sIsPath) (by decide +kernel)) (fun _ _ _ _ _ => (pg_name (i := 1) scIsPath.nd rfl (Or.inl rfl))) (fun _ _ _ _ _ => pts_nil) (fun _ _ _ _ _ => (pe_call GIsName (hr.mono (by decide)) rfl aIsName.m aIsName.k aIsName.b .nil pass0 (pa_cons (pv 1) pa_nil)))) pa_nil))))), ?_⟩
    have hs := js_sh hp hl
    obtain ⟨ys, e1, e2, e3⟩ : ∃ ys, Txt.split (js p) "/" = ys ∧ (∀ y ∈ ys, Sh y) ∧ (ys.length < 1000000 ∧ ys.all (fun y => decide (IsNm y)) = decide (p ≠ [])) := by
      by_cases h : p = []
      · subst h
        refine ⟨[""], by decide +kernel, ?_, by decide, by decide +kernel⟩
        intro y hy
        rw [List.mem_singleton.mp hy]
        exact Nat.zero_le _
      · refine ⟨p, split_js hp h, fun y hy => nm_sh (hp y hy), by omega, ?_⟩
        rw [decide_eq_true h, List.all_eq_true]
        exact fun y hy => decide_eq_true (hp y hy)
    refine ⟨_, rfl, _, _, .type "str", .type "str", true, rfl, .ty "str", .base (.str _), kit_ty (by decide +kernel), true, rfl, iteT ⟨_, rfl, rfl, js p, "/", rfl, rfl, rfl, ?_, fun l hl' => ⟨l, rfl, ⟨_, SqL.of upd_same⟩, fun D hD => ?_⟩⟩⟩
    · have := hs
      unfold Sh at this
      exact Nat.le_trans (show (js p).length + 2 ≤ 1002 by omega) (by decide)
    · rw [e1] at hD ⊢
      have s1 : Same H (upd H l (.lst (ys.map V.str))) := same_mk hl'
      refine lc_mapL ys V.str (fun y => .bl (decide (IsNm y))) e3.1 hD (SqL.of upd_same) ?_ ?_
      · intro y hy H2 s2 Q1 k1
        exact ⟨_, rfl, y, rfl, e2 y hy, k1⟩
      · intro H' s' hD'
        refine all_of _ _ hD' ?_
        rw [e3.2]
        exact k H' (s1.trans s')
theorem scIsPlace : FnScope ["thing"] ["thing"] (defScope sIsPlace) := ⟨rfl, rfl, rfl, by decide +kernel, rfl, by decide +kernel, by decide +kernel⟩
theorem ok_isPlace {f fN : Addr} {fd fdN : FuncData} (F : Fun K "is_place" "is_place" sIsPlace f fd) (T0 : TPk mg) (aIsPath : At K mg "is_path" fN fdN ["thing"]) (GIsPath : FnOk P w K mg base CX0 2 fN fdN ["thing"] spIsPath) : FnOk P w K mg base CX0 3 f fd ["thing"] spIsPlace := by
  have T := T0.b
  obtain ⟨t1, mROOT⟩ := T0.ROOT
  refine F.ok scIsPlace (fun vs H Q E h => ?_) (fun cdv A outer s H vs Q E hr h => ?_)
  · obtain ⟨z, rfl, _⟩ := h
    rfl
  · obtain ⟨p, rfl, hp, hl, k⟩ := h
    refine ⟨_, pss_one (ps_ret (pe_or (pe_call GIsPath (hr.mono (by decide)) rfl aIsPath.m aIsPath.k aIsPath.b .nil pass0 (pa_cons (pv 0) pa_nil)) (pe_one (pe_and (pe_callB call_isi (by rfl) T.isinstance (by decide +kernel) (pa_cons (pv 0) (pa_cons (pe_bltn (v := .ty "str") (by rfl) T.str (by decide +kernel) rfl) pa_nil))) (pe_one (pe_cmpR op_eq (pv 0) (pe_glob (v := .str "") rfl mROOT ⟨_, rfl⟩) (nomark _))))))), ?_⟩
    refine ⟨_, rfl, p, rfl, hp, hl, fun H1 s1 => ⟨_, rfl, ?_⟩⟩
    by_cases h : p = []
    · rw [decide_eq_false (not_not_intro h)]
      subst h
      exact iteF ⟨_, rfl, _, _, .type "str", .type "str", true, rfl, .ty "str", .base (.str _), kit_ty (by decide +kernel), _, rfl, iteT ⟨_, rfl, rfl, k H1 s1⟩⟩
    · rw [decide_eq_true h]
      exact iteT (k H1 s1)
theorem scBeg : FnScope ["place"] ["place"] (defScope sBeg) := ⟨rfl, rfl, rfl, by decide +kernel, rfl, by decide +kernel, by decide +kernel⟩
theorem ok_beg {f : Addr} {fd : FuncData} (F : Fun K "beginning" "beginning" sBeg f fd) (T0 : TPk mg) : FnOk P w K mg base CX0 1 f fd ["place"] spBeg := by
  obtain ⟨t1, mROOT⟩ := T0.ROOT
  obtain ⟨t2, mSTROKE⟩ := T0.STROKE
  refine F.ok scBeg (fun vs H Q E h => ?_) (fun cdv A outer s H vs Q E hr h => ?_)
  · obtain ⟨z, rfl, _⟩ := h
    rfl
  · obtain ⟨z, rfl, hz, k⟩ := h
    refine ⟨_, pss_one (ps_ret (pe_ifExp (pt_cmpR op_eq (pv 0) (pe_glob (v := .str "") rfl mROOT ⟨_, rfl⟩) (nomark _)) (pe_glob (v := .str "") rfl mROOT ⟨_, rfl⟩) (pe_op op_add_str (pv 0) (pe_glob (v := .str "/") rfl mSTROKE ⟨_, rfl⟩)))), ?_⟩
    refine ⟨_, rfl, rfl, _, rfl, ?_⟩
    have k : ∀ H', Same H H' → Q (.str (begS z)) H' := k
    unfold begS at k
    by_cases h : z = ""
    · subst h
      exact iteT (k H (Same.refl H))
    · rw [decide_eq_false (show ¬ V.str z = V.str "" from fun q => h (V.str.inj q))]
      rw [decide_eq_false h] at k
      refine iteF ⟨_, rfl, _, _, rfl, rfl, ?_, k H (Same.refl H)⟩
      have := hz
      unfold Sh at this
      exact Nat.le_trans (show z.length + 1 ≤ 1001 by omega) (by decide)
theorem begS_sh {z : Str} (h : Sh z) : (begS z).length ≤ sizeLine := by
  have := h
  unfold Sh at this
  refine Nat.le_trans (show (begS z).length ≤ 1001 from ?_) (by decide)
  unfold begS
  by_cases e : z = ""
  · rw [if_pos (decide_eq_true e)]
    exact Nat.zero_le _
  · rw [if_neg (by rw [decide_eq_false e]; simp), len_tl, tl_append, List.length_append, tl_sl, ← len_tl]
    show z.length + 1 ≤ 1001
    omega
theorem scBen : FnScope ["path", "place"] ["path", "place"] (defScope sBen) := ⟨rfl, rfl, rfl, by decide +kernel, rfl, by decide +kernel, by decide +kernel⟩
theorem ok_ben {f fN : Addr} {fd fdN : FuncData} (F : Fun K "is_beneath" "is_beneath" sBen f fd) (aBeg : At K mg "beginning" fN fdN ["place"]) (GBeg : FnOk P w K mg base CX0 1 fN fdN ["place"] spBeg) : FnOk P w K mg base CX0 2 f fd ["path", "place"] spBen := by
  refine F.ok scBen (fun vs H Q E h => ?_) (fun cdv A outer s H vs Q E hr h => ?_)
  · obtain ⟨x, y, rfl, _⟩ := h
    rfl
  · obtain ⟨x, y, rfl, ⟨hx, hy⟩, k⟩ := h
    refine ⟨_, pss_one (ps_ret (pe_and (pe_cmpR op_ne (pv 0) (pv 1) (nomark _)) (pe_one (pe_bm PySem.F.plainAttrs_str PySem.F.slot_str_startswith PySem.F.type_str_startswith mt_startswith (pv 0) (pa_cons (pe_call GBeg (hr.mono (by decide)) rfl aBeg.m aBeg.k aBeg.b .nil pass0 (pa_cons (pv 1) pa_nil)) pa_nil))))), ?_⟩
    have k : ∀ H', Same H H' → Q (.bl ((!decide (x = y)) && Txt.startswith x (begS y))) H' := k
    refine ⟨_, rfl, _, rfl, rfl, _, rfl, ?_⟩
    by_cases h : x = y
    · rw [decide_eq_true (show V.str x = V.str y by rw [h])]
      rw [decide_eq_true h] at k
      exact iteF (k H (Same.refl H))
    · rw [decide_eq_false (show ¬ V.str x = V.str y from fun q => h (V.str.inj q))]
      rw [decide_eq_false h] at k
      exact iteT ⟨_, rfl, rfl, _, rfl, y, rfl, hy, fun H1 s1 => ⟨x, begS y, rfl, rfl, k H1 s1⟩⟩
theorem scAt : FnScope ["path", "place"] ["path", "place"] (defScope sAt) := ⟨rfl, rfl, rfl, by decide +kernel, rfl, by decide +kernel, by decide +kernel⟩
theorem ok_at {f fN : Addr} {fd fdN : FuncData} (F : Fun K "is_at_or_beneath" "is_at_or_beneath" sAt f fd) (aBen : At K mg "is_beneath" fN fdN ["path", "place"]) (GBen : FnOk P w K mg base CX0 2 fN fdN ["path", "place"] spBen) : FnOk P w K mg base CX0 3 f fd ["path", "place"] spAt := by
  refine F.ok scAt (fun vs H Q E h => ?_) (fun cdv A outer s H vs Q E hr h => ?_)
  · obtain ⟨x, y, rfl, _⟩ := h
    rfl
  · obtain ⟨x, y, rfl, c, k⟩ := h
    refine ⟨_, pss_one (ps_ret (pe_or (pe_cmpR op_eq (pv 0) (pv 1) (nomark _)) (pe_one (pe_call GBen (hr.mono (by decide)) rfl aBen.m aBen.k aBen.b .nil pass0 (pa_cons (pv 0) (pa_cons (pv 1) pa_nil)))))), ?_⟩
    have k : ∀ H', Same H H' → Q (.bl (decide (x = y) || benS x y)) H' := k
    refine ⟨_, rfl, _, rfl, rfl, _, rfl, ?_⟩
    by_cases h : x = y
    · rw [decide_eq_true (show V.str x = V.str y by rw [h])]
      rw [decide_eq_true h] at k
      exact iteT (k H (Same.refl H))
    · rw [decide_eq_false (show ¬ V.str x = V.str y from fun q => h (V.str.inj q))]
      rw [decide_eq_false h] at k
      exact iteF ⟨_, rfl, _, rfl, x, y, rfl, c, k⟩
theorem scRest : FnScope ["path", "place"] ["path", "place"] (defScope sRest) := ⟨rfl, rfl, rfl, by decide +kernel, rfl, by decide +kernel, by decide +kernel⟩
theorem ok_rest {f fN : Addr} {fd fdN : FuncData} (F : Fun K "rest_in" "rest_in" sRest f fd) (T0 : TPk mg) (aBeg : At K mg "beginning" fN fdN ["place"]) (GBeg : FnOk P w K mg base CX0 1 fN fdN ["place"] spBeg) : FnOk P w K mg base CX0 2 f fd ["path", "place"] spRest := by
  have T := T0.b
  refine F.ok scRest (fun vs H Q E h => ?_) (fun cdv A outer s H vs Q E hr h => ?_)
  · obtain ⟨x, y, rfl, _⟩ := h
    rfl
  · obtain ⟨x, y, rfl, ⟨hx, hy⟩, k⟩ := h
    refine ⟨_, pss_one (ps_ret (pe_slice sl_str (pv 0) (po_some (pe_callB call_len_str (by rfl) T.len PySem.boot_len (pa_cons (pe_call GBeg (hr.mono (by decide)) rfl aBeg.m aBeg.k aBeg.b .nil pass0 (pa_cons (pv 1) pa_nil)) pa_nil))) po_none)), ?_⟩
    exact ⟨_, rfl, _, rfl, y, rfl, hy, fun H1 s1 => ⟨begS y, rfl, begS_sh hy, ⟨_, rfl, x, rfl, hx.line, k H1 s1⟩⟩⟩
end
end K3

set_option maxHeartbeats 3900000
namespace K3
open PySem PySem.Spec PyProof.Rows L2 TL
open C8 (pss_cut tCut pe_gc)
open CB
abbrev sRow : Stmt := top 19
abbrev sAsLook : Stmt := top 20
abbrev sCanLook : Stmt := top 21
abbrev sCanShow : Stmt := top 22
abbrev sIsListing : Stmt := top 23
abbrev sIsEntry : Stmt := top 24
abbrev sAsSight : Stmt := top 25
inductive An
  | no
  | tx (z : Str)
  | es (l : List (Str × Bool))
deriving DecidableEq
def entV (e : Str × Bool) : V := .str (ent e.1 e.2)
def AnIn (H : Hp) (v : V) : An → Prop
  | .no => v = .non
  | .tx z => v = .str z
  | .es l => RowAt H v (l.map entV)
def AnAt (H : Hp) (v : V) : An → Prop
  | .no => v = .non
  | .tx z => v = .str z
  | .es l => ∃ a, v = .ref a ∧ H a = some (.tup (l.map entV))
def SiIn (H : Hp) (v : V) (s : Lk × An) : Prop := ∃ vk va, RowAt H v [vk, va] ∧ RowAt H vk (lkV s.1) ∧ AnIn H va s.2
def SiAt (H : Hp) (v : V) (s : Lk × An) : Prop := ∃ t u va, v = .ref t ∧ H t = some (.tup [.ref u, va]) ∧ H u = some (.tup (lkV s.1)) ∧ AnAt H va s.2
theorem AnIn.up {H H' : Hp} {v : V} {a : An} (h : AnIn H v a) (s : Same H H') : AnIn H' v a := by
  cases a with
  | no => exact h
  | tx z => exact h
  | es l => exact RowAt.up h s
theorem AnAt.up {H H' : Hp} {v : V} {a : An} (h : AnAt H v a) (s : Same H H') : AnAt H' v a := by
  cases a with
  | no => exact h
  | tx z => exact h
  | es l =>
    obtain ⟨a, e, h⟩ := h
    exact ⟨a, e, s _ _ h⟩
theorem AnAt.in {H : Hp} {v : V} {a : An} (h : AnAt H v a) : AnIn H v a := by
  cases a with
  | no => exact h
  | tx z => exact h
  | es l =>
    obtain ⟨a, e, h⟩ := h
    exact ⟨a, e, .inl h⟩
theorem SiAt.up {H H' : Hp} {v : V} {a : Lk × An} (h : SiAt H v a) (s : Same H H') : SiAt H' v a := by
  obtain ⟨t, u, va, e, h1, h2, h3⟩ := h
  exact ⟨t, u, va, e, s _ _ h1, s _ _ h2, h3.up s⟩
theorem SiIn.up {H H' : Hp} {v : V} {a : Lk × An} (h : SiIn H v a) (s : Same H H') : SiIn H' v a := by
  obtain ⟨vk, va, h1, h2, h3⟩ := h
  exact ⟨vk, va, h1.up s, h2.up s, h3.up s⟩
theorem SiAt.in {H : Hp} {v : V} {a : Lk × An} (h : SiAt H v a) : SiIn H v a := by
  obtain ⟨t, u, va, e, h1, h2, h3⟩ := h
  exact ⟨.ref u, va, ⟨t, e, .inl h1⟩, ⟨u, rfl, .inl h2⟩, h3.in⟩
def LkOk : Lk → Prop
  | .rd p => p ≠ [] ∧ Nms p ∧ p.length ≤ 90
  | .ls p => Nms p ∧ p.length ≤ 90
  | .se n => IsNm n
  | .tl => True
def Ents (l : List (Str × Bool)) : Prop := (∀ e ∈ l, IsNm e.1) ∧ (l.map (·.1)).Pairwise (fun a b : Str => a.cps.toList < b.cps.toList) ∧ l.length ≤ 1000
def AnOk : Lk → An → Prop
  | .rd _, .no => True
  | .rd _, .tx _ => True
  | .ls p, .no => p ≠ []
  | .ls p, .es l => Ents l ∧ (l ≠ [] ∨ p = [])
  | .se _, .no => True
  | .se _, .tx _ => True
  | .tl, .tx _ => True
  | _, _ => False
def SiOk (s : Lk × An) : Prop := LkOk s.1 ∧ AnOk s.1 s.2
def spRow : Sp := fun vs H Q _ => ∃ v xs n, vs = [v, .int n] ∧ RowAt H v xs ∧ ∀ H', Same H H' → Q (.bl (decide ((xs.length : Int) = n))) H'
def spAsLook : Sp := fun vs H Q _ => ∃ v k, vs = [v] ∧ RowAt H v (lkV k) ∧ LkOk k ∧ ∀ t H', Same H H' → H' t = some (.tup (lkV k)) → Q (.ref t) H'
def spCanLook : Sp := fun vs H Q _ => ∃ k, vs = lkV k ∧ vs.length = 2 ∧ LkOk k ∧ ∀ H', Same H H' → Q (.bl true) H'
def spCanShow : Sp := fun vs H Q _ => ∃ t va k a, vs = [.ref t, va] ∧ H t = some (.tup (lkV k)) ∧ AnIn H va a ∧ LkOk k ∧ AnOk k a ∧ ∀ H', Same H H' → Q (.bl true) H'
def spIsListing : Sp := fun vs H Q _ => ∃ v l, vs = [v] ∧ RowAt H v (l.map entV) ∧ Ents l ∧ ∀ H', Same H H' → Q (.bl true) H'
def spIsEntry : Sp := fun vs H Q _ => ∃ n b, vs = [.str (ent n b)] ∧ IsNm n ∧ ∀ H', Same H H' → Q (.bl true) H'
def spAsSight : Sp := fun vs H Q _ => ∃ v s, vs = [v] ∧ SiIn H v s ∧ SiOk s ∧ ∀ v' H', Same H H' → SiAt H' v' s → Q v' H'
section
variable {P : Program} {w : World} {K : PySem.W.Frag} {mg : Str → Option Value} {base : Heap}
theorem scRow : FnScope ["thing", "size"] ["thing", "size"] (defScope sRow) := ⟨rfl, rfl, rfl, by decide +kernel, rfl, by decide +kernel, by decide +kernel⟩
theorem ok_row {f : Addr} {fd : FuncData} (F : Fun K "is_row" "is_row" sRow f fd) (T : TB mg) : FnOk P w K mg base CX0 1 f fd ["thing", "size"] spRow := by
  refine F.ok scRow (fun vs H Q E h => ?_) (fun cdv A outer s H vs Q E hr h => ?_)
  · obtain ⟨v, xs, n, rfl, _⟩ := h
    rfl
  · obtain ⟨v, xs, n, rfl, hv, k⟩ := h
    refine ⟨_, pss_one (ps_ret (pe_and (pe_callB isi_LT (by rfl) T.isinstance (by decide +kernel) (pa_cons (pv 0) (pa_cons (pe_tup (pa_cons (pe_bltn (v := .ty "list") (by rfl) T.list (by decide +kernel) rfl) (pa_cons (pe_bltn (v := .ty "tuple") (by rfl) T.tuple (by decide +kernel) rfl) pa_nil))) pa_nil))) (pe_one (pe_cmpR op_eq (pe_callB call_len_row (by rfl) T.len PySem.boot_len (pa_cons (pv 0) pa_nil)) (pv 1) (nomark _))))), ?_⟩
    refine ⟨_, rfl, by show 2 ≤ sizeLine; decide, fun tp ht => ⟨v, tp, true, rfl, upd_same, .inl ⟨rfl, xs, hv.up (same_mk ht)⟩, _, rfl, iteT ⟨_, rfl, v, xs, rfl, hv.up (same_mk ht), _, rfl, rfl, ?_⟩⟩⟩
    have e : decide (V.int (xs.length : Int) = V.int n) = decide ((xs.length : Int) = n) := by
      rw [decide_eq_decide]
      exact ⟨fun z => V.int.inj z, fun z => by rw [z]⟩
    rw [e]
    exact k _ (same_mk ht)
theorem scIsEntry : FnScope ["thing"] ["thing"] (defScope sIsEntry) := ⟨rfl, rfl, rfl, by decide +kernel, rfl, by decide +kernel, by decide +kernel⟩
theorem ok_isEntry {f fN : Addr} {fd fdN : FuncData} (F : Fun K "is_entry" "is_entry" sIsEntry f fd) (T0 : TPk mg) (aIsName : At K mg "is_name" fN fdN ["thing"]) (GIsName : FnOk P w K mg base CX0 1 fN fdN ["thing"] spIsName) : FnOk P w K mg base CX0 2 f fd ["thing"] spIsEntry := by
  have T := T0.b
  obtain ⟨t1, mSTROKE⟩ := T0.STROKE
  refine F.ok scIsEntry (fun vs H Q E h => ?_) (fun cdv A outer s H vs Q E hr h => ?_)
  · obtain ⟨n, b, rfl, _⟩ := h
    rfl
  · obtain ⟨n, b, rfl, hn, k⟩ := h
    refine ⟨_, pss_one (ps_ret (pe_and (pe_callB call_isi (by rfl) T.isinstance (by decide +kernel) (pa_cons (pv 0) (pa_cons (pe_bltn (v := .ty "str") (by rfl) T.str (by decide +kernel) rfl) pa_nil))) (pe_one (pe_call GIsName (hr.mono (by decide)) rfl aIsName.m aIsName.k aIsName.b .nil pass0 (pa_cons (pe_bm PySem.F.plainAttrs_str PySem.F.slot_str_removesuffix PySem.F.type_str_removesuffix mt_removesuffix (pv 0) (pa_cons (pe_glob (v := .str "/") rfl mSTROKE ⟨_, rfl⟩) pa_nil)) pa_nil))))), ?_⟩
    refine ⟨_, rfl, _, _, .type "str", .type "str", true, rfl, .ty "str", .base (.str _), kit_ty (by decide +kernel), _, rfl, iteT ⟨_, rfl, rfl, ent n b, "/", rfl, rfl, ?_, _, rfl, ?_, fun H1 s1 => ?_⟩⟩
    · have h8 := hn.2.1
      refine Nat.le_trans (show (ent n b).length ≤ 9 from ?_) (by decide)
      rw [len_tl, tl_ent, List.length_append, ← len_tl]
      cases b <;> simp <;> omega
    · rw [rms_ent hn]
      exact nm_sh hn
    · rw [rms_ent hn]
      show Q (.bl (decide (IsNm n))) H1
      rw [decide_eq_true hn]
      exact k H1 s1
theorem scCanLook : FnScope ["word", "where"] ["word", "where"] (defScope sCanLook) := ⟨rfl, rfl, rfl, by decide +kernel, rfl, by decide +kernel, by decide +kernel⟩
theorem ok_canLook {f fN fPh fPl : Addr} {fd fdN fdPh fdPl : FuncData} (F : Fun K "can_look" "can_look" sCanLook f fd) (T0 : TPk mg) (aIsName : At K mg "is_name" fN fdN ["thing"]) (aIsPath : At K mg "is_path" fPh fdPh ["thing"]) (aIsPlace : At K mg "is_place" fPl fdPl ["thing"])
    (GIsName : FnOk P w K mg base CX0 1 fN fdN ["thing"] spIsName) (GIsPath : FnOk P w K mg base CX0 2 fPh fdPh ["thing"] spIsPath) (GIsPlace : FnOk P w K mg base CX0 3 fPl fdPl ["thing"] spIsPlace) : FnOk P w K mg base CX0 4 f fd ["word", "where"] spCanLook := by
  have T := T0.b
  refine F.ok scCanLook (fun vs H Q E h => ?_) (fun cdv A outer s H vs Q E hr h => ?_)
  · obtain ⟨k, _, h2, _⟩ := h
    exact h2
  · obtain ⟨k, rfl, h2, hk, q⟩ := h
    refine ⟨_, pss_cons (ps_if (pt_not (pt_val (pe_callB call_isi (by rfl) T.isinstance (by decide +kernel) (pa_cons (pv 0) (pa_cons (pe_bltn (v := .ty "str") (by rfl) T.str (by decide +kernel) rfl) pa_nil))))) (pss_one (ps_ret pe_bl)) (pss_nil))
            (pss_cons (ps_if (pt_cmpR op_eq (pv 0) pe_str (nomark _)) (pss_one (ps_ret (pe_call GIsPath (hr.mono (by decide)) rfl aIsPath.m aIsPath.k aIsPath.b .nil pass0 (pa_cons (pv 1) pa_nil)))) (pss_nil))
            (pss_cons (ps_if (pt_cmpR op_eq (pv 0) pe_str (nomark _)) (pss_one (ps_ret (pe_call GIsPlace (hr.mono (by decide)) rfl aIsPlace.m aIsPlace.k aIsPlace.b .nil pass0 (pa_cons (pv 1) pa_nil)))) (pss_nil))
            (pss_one (ps_ret (pe_and (pe_cmpR op_eq (pv 0) pe_str (nomark _)) (pe_one (pe_call GIsName (hr.mono (by decide)) rfl aIsName.m aIsName.k aIsName.b .nil pass0 (pa_cons (pv 1) pa_nil)))))))), ?_⟩
    cases k with
    | rd p =>
      refine ⟨_, rfl, _, _, .type "str", .type "str", true, rfl, .ty "str", .base (.str _), kit_ty (by decide +kernel), _, rfl, iteF ⟨_, rfl, rfl, _, rfl, iteY rfl ⟨_, rfl, p, rfl, hk.2.1, Nat.le_trans hk.2.2 (by decide), fun H1 s1 => ?_⟩⟩⟩
      rw [decide_eq_true hk.1]
      exact q H1 s1
    | ls p =>
      exact ⟨_, rfl, _, _, .type "str", .type "str", true, rfl, .ty "str", .base (.str _), kit_ty (by decide +kernel), _, rfl, iteF ⟨_, rfl, rfl, _, rfl, iteN (by decide +kernel) ⟨_, rfl, rfl, _, rfl, iteY rfl ⟨_, rfl, p, rfl, hk.1, Nat.le_trans hk.2 (by decide), q⟩⟩⟩⟩
    | se n =>
      refine ⟨_, rfl, _, _, .type "str", .type "str", true, rfl, .ty "str", .base (.str _), kit_ty (by decide +kernel), _, rfl, iteF ⟨_, rfl, rfl, _, rfl, iteN (by decide +kernel) ⟨_, rfl, rfl, _, rfl, iteN (by decide +kernel) ⟨_, rfl, rfl, _, rfl, iteY rfl ⟨_, rfl, n, rfl, nm_sh hk, fun H1 s1 => ?_⟩⟩⟩⟩⟩
      show Q (.bl (decide (IsNm n))) H1
      rw [decide_eq_true (show IsNm n from hk)]
      exact q H1 s1
    | tl => exact absurd h2 (by decide)
theorem scAsLook : FnScope ["thing"] ["thing"] (defScope sAsLook) := ⟨rfl, rfl, rfl, by decide +kernel, rfl, by decide +kernel, by decide +kernel⟩
theorem ok_asLook {f fR fC : Addr} {fd fdR fdC : FuncData} (F : Fun K "as_look" "as_look" sAsLook f fd) (T : TB mg) (aRow : At K mg "is_row" fR fdR ["thing", "size"]) (aCanLook : At K mg "can_look" fC fdC ["word", "where"])
    (GRow : FnOk P w K mg base CX0 1 fR fdR ["thing", "size"] spRow) (GCanLook : FnOk P w K mg base CX0 4 fC fdC ["word", "where"] spCanLook) : FnOk P w K mg base CX0 5 f fd ["thing"] spAsLook := by
  refine F.ok scAsLook (fun vs H Q E h => ?_) (fun cdv A outer s H vs Q E hr h => ?_)
  · obtain ⟨v, k, rfl, _⟩ := h
    rfl
  · obtain ⟨v, k, rfl, hv, hk, q⟩ := h
    refine ⟨_, pss_cons (ps_if (PW.pt (pw_and (pt_val (pe_call GRow (hr.mono (by decide)) rfl aRow.m aRow.k aRow.b .nil pass0 (pa_cons (pv 0) (pa_cons pe_int pa_nil)))) (pw_and (pt_val (pe_callB call_isi (by rfl) T.isinstance (by decide +kernel) (pa_cons (pe_ix ix_row (pv 0) pe_int (fun _ _ => rfl)) (pa_cons (pe_bltn (v := .ty "str") (by rfl) T.str (by decide +kernel) rfl) pa_nil)))) (pw_and1 (pt_cmpR op_eq (pe_ix ix_row (pv 0) pe_int (fun _ _ => rfl)) pe_str (nomark _)))))) (pss_one (ps_ret (pe_tup (pa_cons pe_str pa_nil)))) (pss_nil))
            (pss_cons (ps_if (PW.pt (pw_and (pt_val (pe_call GRow (hr.mono (by decide)) rfl aRow.m aRow.k aRow.b .nil pass0 (pa_cons (pv 0) (pa_cons pe_int pa_nil)))) (pw_and1 (pt_val (pe_call GCanLook (hr.mono (by decide)) rfl aCanLook.m aCanLook.k aCanLook.b .nil pass0 (pa_cons (pe_ix ix_row (pv 0) pe_int (fun _ _ => rfl)) (pa_cons (pe_ix ix_row (pv 0) pe_int (fun _ _ => rfl)) pa_nil))))))) (pss_one (ps_ret (pe_tup (pa_cons (pe_ix ix_row (pv 0) pe_int (fun _ _ => rfl)) (pa_cons (pe_ix ix_row (pv 0) pe_int (fun _ _ => rfl)) pa_nil))))) (pss_nil))
            (pss_one (ps_ret pe_non))), ?_⟩
    have two : ∀ (x y : V), lkV k = [x, y] → ∃ Z : Prop, True := fun _ _ _ => ⟨True, trivial⟩
    by_cases e : k = .tl
    · subst e
      refine ⟨_, rfl, v, _, 1, rfl, hv, fun H1 s1 => ⟨_, rfl, iteY rfl ⟨_, rfl, _, 0, _, hv.up s1, rfl, atI_nat (j := 0) rfl, _, _, .type "str", .type "str", true, rfl, .ty "str", .base (.str _), kit_ty (by decide +kernel), _, rfl, iteT ⟨_, rfl, _, 0, _, hv.up s1, rfl, atI_nat (j := 0) rfl, rfl, _, rfl, iteY rfl ⟨by show 1 ≤ sizeLine; decide, fun t ht => ?_⟩⟩⟩⟩⟩
      exact q t _ (same_ch s1 (s1.free ht)) upd_same
    · obtain ⟨x, y, exy⟩ : ∃ x y, lkV k = [x, y] := by
        cases k with
        | tl => exact absurd rfl e
        | _ => exact ⟨_, _, rfl⟩
      rw [exy] at hv
      refine ⟨_, rfl, v, _, 1, rfl, hv, fun H1 s1 => ⟨_, rfl, iteN (by show ¬ ((2 : Nat) : Int) = 1; decide) ⟨_, rfl, v, _, 2, rfl, hv.up s1, fun H2 s2 => ⟨_, rfl, iteY rfl ?_⟩⟩⟩⟩
      have v2 := (hv.up s1).up s2
      refine ⟨_, rfl, _, 0, _, v2, rfl, atI_nat (j := 0) rfl, _, rfl, _, 1, _, v2, rfl, atI_nat (j := 1) rfl, k, exy.symm, rfl, hk, fun H3 s3 => ⟨_, rfl, iteT ?_⟩⟩
      have v3 := v2.up s3
      refine ⟨_, rfl, _, 0, _, v3, rfl, atI_nat (j := 0) rfl, _, rfl, _, 1, _, v3, rfl, atI_nat (j := 1) rfl, by show 2 ≤ sizeLine; decide, fun t ht => ?_⟩
      refine q t _ (same_ch ((s1.trans s2).trans s3) (((s1.trans s2).trans s3).free ht)) ?_
      rw [exy]
      exact upd_same
theorem scIsListing : FnScope ["thing", "names", "entry", "one", "other"] ["thing"] (defScope sIsListing) := ⟨rfl, rfl, rfl, by decide +kernel, rfl, by decide +kernel, by decide +kernel⟩
theorem ok_isListing {f fE : Addr} {fd fdE : FuncData} (F : Fun K "is_listing" "is_listing" sIsListing f fd) (T0 : TPk mg) (aIsEntry : At K mg "is_entry" fE fdE ["thing"]) (GIsEntry : FnOk P w K mg base CX0 2 fE fdE ["thing"] spIsEntry) : FnOk P w K mg base CX0 3 f fd ["thing"] spIsListing := by
  have T := T0.b
  obtain ⟨t1, mSTROKE⟩ := T0.STROKE
  refine F.ok scIsListing (fun vs H Q E h => ?_) (fun cdv A outer s H vs Q E hr h => ?_)
  · obtain ⟨v, l, rfl, _⟩ := h
    rfl
  · obtain ⟨v, l, rfl, hv, hl, k⟩ := h
    refine ⟨_, pss_cons (ps_if (PW.pt (pw_or (pt_not (pt_val (pe_callB isi_LT (by rfl) T.isinstance (by decide +kernel) (pa_cons (pv 0) (pa_cons (pe_tup (pa_cons (pe_bltn (v := .ty "list") (by rfl) T.list (by decide +kernel) rfl) (pa_cons (pe_bltn (v := .ty "tuple") (by rfl) T.tuple (by decide +kernel) rfl) pa_nil))) pa_nil))))) (pw_or1 (pt_not (pt_val (pe_callB (cr_all rfl) (by rfl) T.all boot_all (pa_cons (pe_lc (own := [("entry", 2)]) (g := gName 2) (tt := tYes) rfl scIsListing.nd (pi_seqv (pv 0)) (blkOk_by (own := [("entry", 2)]) (N := ["thing", "names", "entry", "one", "other"]) (sc := defScope sIsListing) (by decide +kernel)) (fun _ _ _ _ _ => (pg_name (i := 2) scIsListing.nd rfl (Or.inl rfl))) (fun _ _ _ _ _ => pts_nil) (fun _ _ _ _ _ => (by exact (pe_call GIsEntry (hr.mono (by decide)) rfl aIsEntry.m aIsEntry.k aIsEntry.b .nil pass0 (pa_cons (pv 2) pa_nil))))) pa_nil))))))) (pss_one (ps_ret pe_bl)) (pss_nil))
            (pss_cons (ps_setLc (i := 1) (own := [("entry", 2)]) (g := gName 2) (tt := tYes) rfl scIsListing.nd rfl rfl (sw_true rfl rfl rfl (by decide +kernel)) (pi_seqv (pv 0)) (blkOk_by (own := [("entry", 2)]) (N := ["thing", "names", "entry", "one", "other"]) (sc := defScope sIsListing) (by decide +kernel)) (fun _ _ _ _ _ => (pg_name (i := 2) scIsListing.nd rfl (Or.inl rfl))) (fun _ _ _ _ _ => pts_nil) (fun _ _ _ _ _ => (by exact (pe_bmK K rfl PySem.F.plainAttrs_str PySem.F.slot_str_removesuffix PySem.F.type_str_removesuffix mt_removesuffix (pv 2) (pa_cons (pe_glob (v := .str "/") rfl mSTROKE ⟨_, rfl⟩) pa_nil)))))
            (pss_one (ps_ret (pe_callB (cr_all rfl) (by rfl) T.all boot_all (pa_cons (pe_lc (own := [("one", 3), ("other", 4)]) (g := gTup K 2 (gCons (gName 3) (gCons (gName 4) gNil))) (tt := tYes) rfl scIsListing.nd (pi_zip (by rfl) T.zip (pa_cons (pv 1) (pa_cons (pe_slice sl_list (pv 1) (po_some pe_int) po_none) pa_nil))) (blkOk_by (own := [("one", 3), ("other", 4)]) (N := ["thing", "names", "entry", "one", "other"]) (sc := defScope sIsListing) (by decide +kernel)) (fun _ _ _ _ _ => (pg_tupK (K0 := K) rfl rfl (pgs_cons (pg_name (i := 3) scIsListing.nd rfl (Or.inl rfl)) (pgs_cons (pg_name (i := 4) scIsListing.nd rfl (Or.inl rfl)) pgs_nil)))) (fun _ _ _ _ _ => pts_nil) (fun _ _ _ _ _ => (by exact (pe_cmpR op_lt_str (pv 3) (pv 4) (nomark _))))) pa_nil))))), ?_⟩
    have hs : l.length < 1000000 := Nat.lt_of_le_of_lt hl.2.2 (by decide)
    have at1 : (l.all fun _ => true) = true := List.all_eq_true.mpr fun _ _ => rfl
    refine ⟨_, rfl, by show 2 ≤ sizeLine; decide, fun tp ht => ⟨v, tp, true, rfl, upd_same, .inl ⟨rfl, _, hv.up (same_mk ht)⟩, _, rfl, iteF ?_⟩⟩
    refine all_row l entV (fun _ => true) rfl (hv.up (same_mk ht)) hs ?_ ?_
    · intro e he H2 s2 Q1 k1
      exact ⟨_, rfl, e.1, e.2, rfl, hl.1 e he, k1⟩
    intro H1 s1
    rw [at1]
    refine ⟨_, rfl, iteF ?_⟩
    have sa := (same_mk ht).trans s1
    refine set_row l entV (fun e => .str e.1) rfl (hv.up sa) hs ?_ ?_
    · intro e he H2 s2 Q1 k1
      refine ⟨_, rfl, rfl, ent e.1 e.2, "/", rfl, rfl, ?_, ?_⟩
      · have h8 := (hl.1 e he).2.1
        refine Nat.le_trans (show (ent e.1 e.2).length ≤ 9 from ?_) (by decide)
        rw [len_tl, tl_ent, List.length_append, ← len_tl]
        cases e.2 <;> simp <;> omega
      · rw [rms_ent (hl.1 e he)]
        exact k1 H2 (Same.refl H2)
    intro D H2 s2 hD hD2
    refine ⟨_, rfl, _, rfl, 1, rfl, D, _, rfl, SqL.of hD2, fun p hp => ?_⟩
    have hD3 := same_mk (o := .lst (cutV (l.map fun e => V.str e.1) (some 1) none)) hp _ _ hD2
    refine ⟨D, p, _, _, rfl, SqL.of hD3, SqL.of upd_same, fun D2 hD2' => ?_⟩
    rw [cut_1] at hD2' ⊢
    rw [cut_1] at hD3
    have le : (List.replicate (min (l.map fun e => V.str e.1).length ((l.map fun e => V.str e.1).drop 1).length) (V.bl true)).length = min (l.map fun e => V.str e.1).length ((l.map fun e => V.str e.1).drop 1).length := List.length_replicate
    refine lcW2 (walk_zip rfl) (by decide) _ le ?_ hD2' (fun H' s' => ⟨s'.seq (SqL.of hD3), s'.seq (SqL.of upd_same)⟩) ?_ ?_
    · rw [List.length_map]
      omega
    · intro m x x' y H4 hy ex ex' s4 Q1 k1
      obtain ⟨e1, he1, rfl⟩ : ∃ e, l[m]? = some e ∧ x = .str e.1 := by
        rw [List.getElem?_map] at ex
        cases q : l[m]? with
        | none => rw [q] at ex; cases ex
        | some e => rw [q] at ex; cases ex; exact ⟨e, rfl, rfl⟩
      obtain ⟨e2, he2, rfl⟩ : ∃ e, l[m + 1]? = some e ∧ x' = .str e.1 := by
        rw [List.getElem?_drop, List.getElem?_map, Nat.add_comm] at ex'
        cases q : l[m + 1]? with
        | none => rw [q] at ex'; cases ex'
        | some e => rw [q] at ex'; cases ex'; exact ⟨e, rfl, rfl⟩
      have yt : y = .bl true := by
        have := List.mem_of_getElem? hy
        exact (List.mem_replicate.mp this).2
      subst yt
      refine ⟨_, rfl, _, rfl, e1.1, e2.1, rfl, rfl, ?_⟩
      have lt : e1.1.cps.toList < e2.1.cps.toList := by
        have pw := hl.2.1
        rw [List.pairwise_iff_getElem] at pw
        obtain ⟨h1, g1⟩ := List.getElem?_eq_some_iff.mp he1
        obtain ⟨h2, g2⟩ := List.getElem?_eq_some_iff.mp he2
        have := pw m (m + 1) (by rw [List.length_map]; exact h1) (by rw [List.length_map]; exact h2) (Nat.lt_succ_self m)
        rw [List.getElem_map, List.getElem_map, g1, g2] at this
        exact this
      rw [decide_eq_true lt]
      exact k1 H4 (Same.refl H4)
    · intro H5 s5 hD5
      refine all_of (List.replicate (min (l.map fun e => V.str e.1).length ((l.map fun e => V.str e.1).drop 1).length) true) id (by rw [hD5, List.map_replicate]; rfl) ?_
      have ar : ∀ n, (List.replicate n true).all id = true := fun n => List.all_eq_true.mpr fun b hb => (List.mem_replicate.mp hb).2
      rw [ar]
      exact k H5 ((sa.trans s2).trans ((same_mk hp).trans s5))
def strD (l : List Str) : PyData := .tuple (l.map .str)
abbrev Okz (z : Str) : Prop := PyData.strOk z = true
theorem okz_of {z : Str} (h : ∀ c ∈ tl z, c < 1114112) : Okz z := by
  show (z.cps.all fun c => decide (c < 1114112)) = true
  rw [Array.all_eq_true_iff_forall_mem]
  intro c hc
  exact decide_eq_true (h c (Array.mem_toList_iff.mpr hc))
theorem jl_small : ∀ {p : List Str}, Nms p → ∀ c ∈ jl p, c < 128
  | [], _ => by intro c hc; cases hc
  | [y], h => fun c hc => by
    have := (h y List.mem_cons_self).2.2 c hc
    omega
  | y :: z :: r, h => fun c hc => by
    have e : jl (y :: z :: r) = tl y ++ ([47] ++ jl (z :: r)) := rfl
    rw [e] at hc
    rcases List.mem_append.mp hc with q | q
    · have := (h y List.mem_cons_self).2.2 c q
      omega
    · rcases List.mem_append.mp q with q | q
      · rw [List.mem_singleton.mp q]
        decide
      · exact jl_small h.tail c q
theorem okz_js {p : List Str} (h : Nms p) : Okz (js p) := okz_of fun c hc => by
  rw [tl_js] at hc
  have := jl_small h c hc
  omega
theorem okz_nm {z : Str} (h : IsNm z) : Okz z := okz_of fun c hc => by
  have := h.2.2 c hc
  omega
theorem okz_ent {z : Str} (h : IsNm z) (b : Bool) : Okz (ent z b) := okz_of fun c hc => by
  rw [tl_ent] at hc
  rcases List.mem_append.mp hc with q | q
  · have := h.2.2 c q
    omega
  · cases b
    · cases q
    · rw [List.mem_singleton.mp q]
      decide
theorem lay_strs : ∀ l : List Str, (∀ z ∈ l, Okz z) → PyData.canLayAll0 (l.map .str) = true
  | [], _ => by simp [PyData.canLayAll0]
  | z :: r, h => by
    have h1 : PyData.strOk z = true := h z List.mem_cons_self
    simp [PyData.canLayAll0, PyData.canLay0, lay_strs r fun y hy => h y (List.mem_cons_of_mem _ hy), h1]
theorem dep_strs : ∀ l : List Str, PyData.depthAll (l.map .str) ≤ 1
  | [] => by simp [PyData.depthAll]
  | z :: r => by
    have := dep_strs r
    simp only [List.map_cons, PyData.depthAll, PyData.depth]
    omega
theorem shaped_strs (l : List Str) (hl : ∀ z ∈ l, Okz z) : SeqAt.shaped (strD l) = true := by
  have h := dep_strs l
  have h2 : PyData.depth (.tuple (l.map .str)) ≤ 64 := by
    simp only [PyData.depth]
    omega
  show (PyData.canLay0 (.tuple (l.map .str)) && decide (PyData.depth (.tuple (l.map .str)) ≤ 64)) = true
  rw [Bool.and_eq_true]
  exact ⟨by simp only [PyData.canLay0]; exact lay_strs l hl, decide_eq_true h2⟩
theorem dp_strs {H : Hp} : ∀ l : List Str, DpAll K H (l.map V.str) (l.map PyData.str)
  | [] => .nil
  | z :: r => .cons (.str z) (dp_strs r)
theorem eqv_str2 (a b c d : Str) : PyData.eqv (strD [a, b]) (strD [c, d]) = ((a == c) && (b == d)) := by
  simp [strD, PyData.eqv, PyData.eqvAll]
theorem scCanShow : FnScope ["look", "answer", "word"] ["look", "answer"] (defScope sCanShow) := ⟨rfl, rfl, rfl, by decide +kernel, rfl, by decide +kernel, by decide +kernel⟩
theorem ok_canShow {f fL : Addr} {fd fdL : FuncData} (F : Fun K "can_show" "can_show" sCanShow f fd) (T0 : TPk mg) (aIsListing : At K mg "is_listing" fL fdL ["thing"]) (GIsListing : FnOk P w K mg base CX0 3 fL fdL ["thing"] spIsListing) : FnOk P w K mg base CX0 4 f fd ["look", "answer"] spCanShow := by
  have T := T0.b
  obtain ⟨t1, mROOT⟩ := T0.ROOT
  refine F.ok scCanShow (fun vs H Q E h => ?_) (fun cdv A outer s H vs Q E hr h => ?_)
  · obtain ⟨t, va, k, a, rfl, _⟩ := h
    rfl
  · have hu := hr.units
    obtain ⟨t, va, k, a, rfl, ht, ha, hk, ok, q⟩ := h
    refine ⟨_, pss_cons (ps_set (i := 2) scCanShow.nd rfl (Or.inl rfl) (pe_ix ix_tup (pv 0) pe_int (fun _ _ => rfl)))
            (pss_cons (ps_if (pt_cmp (pc_isN (pv 1))) (pss_one (ps_ret (pe_and (pe_cmpR op_ne (pv 2) pe_str (nomark _)) (pe_one (pe_cmpR (op_neD hu) (pv 0) (pe_tup (pa_cons pe_str (pa_cons (pe_glob (v := .str "") rfl mROOT ⟨_, rfl⟩) pa_nil))) (nomark _)))))) (pss_nil))
            (pss_cons (ps_if (pt_cmpR op_eq (pv 2) pe_str (nomark _)) (pss_one (ps_ret (pe_and (pe_call GIsListing (hr.mono (by decide)) rfl aIsListing.m aIsListing.k aIsListing.b .nil pass0 (pa_cons (pv 1) pa_nil)) (pe_one (pe_or (pe_cmpR op_gt (pe_callB call_len_row (by rfl) T.len PySem.boot_len (pa_cons (pv 1) pa_nil)) pe_int (nomark _)) (pe_one (pe_cmpR op_eq (pe_ix ix_tup (pv 0) pe_int (fun _ _ => rfl)) (pe_glob (v := .str "") rfl mROOT ⟨_, rfl⟩) (nomark _)))))))) (pss_nil))
            (pss_one (ps_ret (pe_callB call_isi (by rfl) T.isinstance (by decide +kernel) (pa_cons (pv 1) (pa_cons (pe_bltn (v := .ty "str") (by rfl) T.str (by decide +kernel) rfl) pa_nil))))))), ?_⟩
    have neD : ∀ (x y : Str) (p : Addr) (H2 : Hp), H2 t = some (.tup [.str x, .str y]) → H2 p = some (.tup [.str "list", .str ""]) → Okz y → (x = "list" → y ≠ "") → Okz x → ∀ Q1 : VK, Q1 (.bl true) H2 → rNeD K (.ref t) (.ref p) H2 Q1 := fun x y p H2 e1 e2 oy ne ox Q1 q1 => by
      refine ⟨strD [x, y], strD ["list", ""], .tup (SqT.of e1) (dp_strs [x, y]), .tup (SqT.of e2) (dp_strs ["list", ""]), shaped_strs _ (by simpa using ⟨ox, oy⟩), shaped_strs _ (by decide +kernel), ?_⟩
      rw [eqv_str2]
      have : ((x == "list") && (y == "")) = false := by
        rw [Bool.and_eq_false_iff]
        by_cases e : x = "list"
        · exact .inr (beq_eq_false_iff_ne.mpr (ne e))
        · exact .inl (beq_eq_false_iff_ne.mpr e)
      rw [this]
      exact q1
    cases k with
    | rd p =>
      refine ⟨_, rfl, t, _, 0, _, rfl, rfl, SqT.of ht, atI_nat (j := 0) rfl, ?_⟩
      cases a with
      | no =>
        cases (show va = .non from ha)
        refine ⟨_, rfl, _, rfl, iteT ⟨_, rfl, rfl, _, rfl, iteT ⟨_, rfl, by show 2 ≤ sizeLine; decide, fun p hp => ?_⟩⟩⟩
        exact neD _ _ p _ (same_mk hp _ _ ht) upd_same (okz_js hk.2.1) (fun z => absurd z (by decide +kernel)) (by decide +kernel) _ (q _ (same_mk hp))
      | tx z =>
        cases (show va = .str z from ha)
        exact ⟨_, rfl, _, rfl, iteN (by intro z; cases z) ⟨_, rfl, rfl, _, rfl, iteN (by decide +kernel) ⟨_, rfl, _, _, .type "str", .type "str", true, rfl, .ty "str", .base (.str _), kit_ty (by decide +kernel), q H (Same.refl H)⟩⟩⟩
      | es l => exact ok.elim
    | ls p =>
      refine ⟨_, rfl, t, _, 0, _, rfl, rfl, SqT.of ht, atI_nat (j := 0) rfl, ?_⟩
      cases a with
      | no =>
        cases (show va = .non from ha)
        refine ⟨_, rfl, _, rfl, iteT ⟨_, rfl, rfl, _, rfl, iteT ⟨_, rfl, by show 2 ≤ sizeLine; decide, fun p hp => ?_⟩⟩⟩
        exact neD _ _ p _ (same_mk hp _ _ ht) upd_same (okz_js hk.1) (fun _ => js_ne hk.1 ok) (by decide +kernel) _ (q _ (same_mk hp))
      | tx z => exact ok.elim
      | es l =>
        obtain ⟨b, rfl, hb⟩ := (show RowAt H va (l.map entV) from ha)
        refine ⟨_, rfl, _, rfl, iteN (by intro z; cases z) ⟨_, rfl, rfl, _, rfl, iteY rfl ⟨_, rfl, .ref b, l, rfl, ⟨b, rfl, hb⟩, ok.1, fun H1 s1 => ⟨_, rfl, iteT ⟨_, rfl, .ref b, _, rfl, RowAt.up ⟨b, rfl, hb⟩ s1, _, _, rfl, rfl, _, rfl, ?_⟩⟩⟩⟩⟩
        rw [List.length_map]
        by_cases e : l = []
        · subst e
          refine iteN (by decide) ⟨_, rfl, t, _, 1, _, rfl, rfl, SqT.of (s1 _ _ ht), atI_nat (j := 1) rfl, rfl, ?_⟩
          have pe : p = [] := ok.2.resolve_left (fun z => z rfl)
          subst pe
          exact q H1 s1
        · have := List.length_pos_iff.mpr e
          refine iteY (by omega) ?_
          exact q H1 s1
    | se n =>
      refine ⟨_, rfl, t, _, 0, _, rfl, rfl, SqT.of ht, atI_nat (j := 0) rfl, ?_⟩
      cases a with
      | no =>
        cases (show va = .non from ha)
        refine ⟨_, rfl, _, rfl, iteT ⟨_, rfl, rfl, _, rfl, iteT ⟨_, rfl, by show 2 ≤ sizeLine; decide, fun p hp => ?_⟩⟩⟩
        exact neD _ _ p _ (same_mk hp _ _ ht) upd_same (okz_nm hk) (fun z => absurd z (by decide +kernel)) (by decide +kernel) _ (q _ (same_mk hp))
      | tx z =>
        cases (show va = .str z from ha)
        exact ⟨_, rfl, _, rfl, iteN (by intro z; cases z) ⟨_, rfl, rfl, _, rfl, iteN (by decide +kernel) ⟨_, rfl, _, _, .type "str", .type "str", true, rfl, .ty "str", .base (.str _), kit_ty (by decide +kernel), q H (Same.refl H)⟩⟩⟩
      | es l => exact ok.elim
    | tl =>
      refine ⟨_, rfl, t, _, 0, _, rfl, rfl, SqT.of ht, atI_nat (j := 0) rfl, ?_⟩
      cases a with
      | no => exact ok.elim
      | tx z =>
        cases (show va = .str z from ha)
        exact ⟨_, rfl, _, rfl, iteN (by intro z; cases z) ⟨_, rfl, rfl, _, rfl, iteN (by decide +kernel) ⟨_, rfl, _, _, .type "str", .type "str", true, rfl, .ty "str", .base (.str _), kit_ty (by decide +kernel), q H (Same.refl H)⟩⟩⟩
      | es l => exact ok.elim
theorem scAsSight : FnScope ["thing", "look"] ["thing"] (defScope sAsSight) := ⟨rfl, rfl, rfl, by decide +kernel, rfl, by decide +kernel, by decide +kernel⟩
theorem ok_asSight {f fR fL fS : Addr} {fd fdR fdL fdS : FuncData} (F : Fun K "as_sight" "as_sight" sAsSight f fd) (T : TB mg) (aRow : At K mg "is_row" fR fdR ["thing", "size"]) (aAsLook : At K mg "as_look" fL fdL ["thing"]) (aCanShow : At K mg "can_show" fS fdS ["look", "answer"])
    (GRow : FnOk P w K mg base CX0 1 fR fdR ["thing", "size"] spRow) (GAsLook : FnOk P w K mg base CX0 5 fL fdL ["thing"] spAsLook) (GCanShow : FnOk P w K mg base CX0 4 fS fdS ["look", "answer"] spCanShow) : FnOk P w K mg base CX0 6 f fd ["thing"] spAsSight := by
  refine F.ok scAsSight (fun vs H Q E h => ?_) (fun cdv A outer s H vs Q E hr h => ?_)
  · obtain ⟨v, k, rfl, _⟩ := h
    rfl
  · obtain ⟨v, ⟨k, a⟩, rfl, ⟨vk, va, hv, hk, ha⟩, ⟨ok1, ok2⟩, q⟩ := h
    refine ⟨_, pss_cons (ps_if (pt_not (pt_val (pe_call GRow (hr.mono (by decide)) rfl aRow.m aRow.k aRow.b .nil pass0 (pa_cons (pv 0) (pa_cons pe_int pa_nil))))) (pss_one (ps_ret pe_non)) (pss_nil))
            (pss_cons (ps_set (i := 1) scAsSight.nd rfl (Or.inl rfl) (pe_call GAsLook (hr.mono (by decide)) rfl aAsLook.m aAsLook.k aAsLook.b .nil pass0 (pa_cons (pe_ix ix_row (pv 0) pe_int (fun _ _ => rfl)) pa_nil)))
            (pss_cons (ps_if (PW.pt (pw_or (pt_cmp (pc_isN (pv 1))) (pw_or1 (pt_not (pt_val (pe_call GCanShow (hr.mono (by decide)) rfl aCanShow.m aCanShow.k aCanShow.b .nil pass0 (pa_cons (pv 1) (pa_cons (pe_ix ix_row (pv 0) pe_int (fun _ _ => rfl)) pa_nil)))))))) (pss_one (ps_ret pe_non)) (pss_nil))
            (pss_cons (ps_if (pt_val (pe_callB isi_LT (by rfl) T.isinstance (by decide +kernel) (pa_cons (pe_ix ix_row (pv 0) pe_int (fun _ _ => rfl)) (pa_cons (pe_tup (pa_cons (pe_bltn (v := .ty "list") (by rfl) T.list (by decide +kernel) rfl) (pa_cons (pe_bltn (v := .ty "tuple") (by rfl) T.tuple (by decide +kernel) rfl) pa_nil))) pa_nil)))) (pss_one (ps_ret (pe_tup (pa_cons (pv 1) (pa_cons (pe_callTy call_tup_row (by rfl) T.tuple (by decide +kernel) (pa_cons (pe_ix ix_row (pv 0) pe_int (fun _ _ => rfl)) pa_nil)) pa_nil))))) (pss_nil))
            (pss_one (ps_ret (pe_tup (pa_cons (pv 1) (pa_cons (pe_ix ix_row (pv 0) pe_int (fun _ _ => rfl)) pa_nil)))))))), ?_⟩
    refine ⟨_, rfl, v, _, 2, rfl, hv, fun H1 s1 => ⟨_, rfl, iteF ?_⟩⟩
    have v1 := hv.up s1
    refine ⟨_, rfl, _, 0, _, v1, rfl, atI_nat (j := 0) rfl, vk, k, rfl, RowAt.up hk s1, ok1, fun t H2 s2 ht => ?_⟩
    have v2 := v1.up s2
    have a2 := (ha.up s1).up s2
    refine ⟨_, rfl, _, rfl, iteN (by intro z; cases z) ⟨_, rfl, _, rfl, _, 1, _, v2, rfl, atI_nat (j := 1) rfl, t, va, k, a, rfl, ht, a2, ok1, ok2, fun H3 s3 => ⟨_, rfl, iteF ?_⟩⟩⟩
    have v3 := v2.up s3
    have a3 := a2.up s3
    have ht3 := s3 _ _ ht
    have s123 := (s1.trans s2).trans s3
    have fin : ∀ (H5 : Hp), Same H3 H5 → AnAt H5 va a → (∀ p, H5 p = none → Q (.ref p) (upd H5 p (.tup [.ref t, va]))) := fun H5 s5 hA p hp => by
      refine q (.ref p) _ (same_ch (s123.trans s5) ((s123.trans s5).free hp)) ⟨p, t, va, rfl, upd_same, same_mk hp _ _ (s5 _ _ ht3), hA.up (same_mk hp)⟩
    refine ⟨_, rfl, _, 1, _, v3, rfl, atI_nat (j := 1) rfl, by show 2 ≤ sizeLine; decide, fun tp htp => ?_⟩
    have sp := same_mk (o := .tup [.ty "list", .ty "tuple"]) htp
    cases a with
    | no =>
      cases (show va = .non from ha)
      exact ⟨_, tp, false, rfl, upd_same, .inr ⟨rfl, .inl rfl⟩, _, rfl, iteF ⟨_, rfl, _, rfl, _, 1, _, v3.up sp, rfl, atI_nat (j := 1) rfl, by show 2 ≤ sizeLine; decide, fun p hp => fin _ sp rfl p hp⟩⟩
    | tx z =>
      cases (show va = .str z from ha)
      exact ⟨_, tp, false, rfl, upd_same, .inr ⟨rfl, .inr (.inl ⟨z, rfl⟩)⟩, _, rfl, iteF ⟨_, rfl, _, rfl, _, 1, _, v3.up sp, rfl, atI_nat (j := 1) rfl, by show 2 ≤ sizeLine; decide, fun p hp => fin _ sp rfl p hp⟩⟩
    | es l =>
      refine ⟨_, tp, true, rfl, upd_same, .inl ⟨rfl, _, RowAt.up a3 sp⟩, _, rfl, iteT ⟨_, rfl, _, rfl, _, 1, _, v3.up sp, rfl, atI_nat (j := 1) rfl, va, l.map entV, rfl, RowAt.up a3 sp, fun b H4 s4 hb => ⟨by show 2 ≤ sizeLine; decide, fun p hp => ?_⟩⟩⟩
      have s34 := sp.trans s4
      exact q (.ref p) _ (same_ch (s123.trans s34) ((s123.trans s34).free hp)) ⟨p, t, .ref b, rfl, upd_same, same_mk hp _ _ (s34 _ _ ht3), ⟨b, rfl, same_mk hp _ _ hb⟩⟩
end
end K3

set_option maxHeartbeats 3900000
namespace K3
open PySem PySem.Spec PyProof.Rows L2 TL
open CB
def lkS : Lk → List Str
  | .rd p => ["read", js p]
  | .ls p => ["list", js p]
  | .se n => ["setting", n]
  | .tl => ["tool"]
theorem lkV_S (k : Lk) : lkV k = (lkS k).map V.str := by cases k <;> rfl
def lkD (k : Lk) : PyData := strD (lkS k)
def anD : An → PyData
  | .no => .none
  | .tx z => .str z
  | .es l => strD (l.map fun e => ent e.1 e.2)
def siD (s : Lk × An) : PyData := .tuple [lkD s.1, anD s.2]
def LkW : Lk → Prop
  | .rd p => Nms p ∧ p.length ≤ 100
  | .ls p => Nms p ∧ p.length ≤ 100
  | .se n => IsNm n
  | .tl => True
def AnW : An → Prop
  | .no => True
  | .tx z => Okz z
  | .es l => (∀ e ∈ l, IsNm e.1) ∧ l.length ≤ 1000
def SiW (s : Lk × An) : Prop := LkW s.1 ∧ AnW s.2
theorem LkOk.w {k : Lk} (h : LkOk k) : LkW k := by
  cases k with
  | rd p => exact ⟨h.2.1, Nat.le_trans h.2.2 (by decide)⟩
  | ls p => exact ⟨h.1, Nat.le_trans h.2 (by decide)⟩
  | se n => exact h
  | tl => trivial
theorem lkS_ok {k : Lk} (h : LkW k) : ∀ z ∈ lkS k, Okz z := by
  intro z hz
  cases k with
  | rd p =>
    rcases List.mem_cons.mp hz with e | e
    · rw [e]
      decide +kernel
    · rw [List.mem_singleton.mp e]
      exact okz_js h.1
  | ls p =>
    rcases List.mem_cons.mp hz with e | e
    · rw [e]
      decide +kernel
    · rw [List.mem_singleton.mp e]
      exact okz_js h.1
  | se n =>
    rcases List.mem_cons.mp hz with e | e
    · rw [e]
      decide +kernel
    · rw [List.mem_singleton.mp e]
      exact okz_nm h
  | tl =>
    rw [List.mem_singleton.mp hz]
    decide +kernel
theorem lay_strD (l : List Str) (h : ∀ z ∈ l, Okz z) : (strD l).canLay0 = true := by
  simp only [strD, PyData.canLay0]
  exact lay_strs l h
theorem dep_strD (l : List Str) : (strD l).depth ≤ 2 := by
  have := dep_strs l
  simp only [strD, PyData.depth]
  omega
theorem anD_lay {a : An} (h : AnW a) : (anD a).canLay0 = true := by
  cases a with
  | no => simp [anD, PyData.canLay0]
  | tx z =>
    have h2 : PyData.strOk z = true := h
    simp [anD, PyData.canLay0, h2]
  | es l =>
    refine lay_strD _ fun z hz => ?_
    obtain ⟨e, he, rfl⟩ := List.mem_map.mp hz
    exact okz_ent (h.1 e he) e.2
theorem anD_dep (a : An) : (anD a).depth ≤ 2 := by
  cases a with
  | no => simp [anD, PyData.depth]
  | tx z => simp [anD, PyData.depth]
  | es l => exact dep_strD _
theorem shaped_mk {d : PyData} (h1 : d.canLay0 = true) (h2 : d.depth ≤ 64) : SeqAt.shaped d = true := by
  show (d.canLay0 && decide (d.depth ≤ 64)) = true
  rw [Bool.and_eq_true]
  exact ⟨h1, decide_eq_true h2⟩
theorem anD_shaped {a : An} (h : AnW a) : SeqAt.shaped (anD a) = true := shaped_mk (anD_lay h) (Nat.le_trans (anD_dep a) (by decide))
theorem lkD_shaped {k : Lk} (h : LkW k) : SeqAt.shaped (lkD k) = true := shaped_strs _ (lkS_ok h)
theorem siD_lay {s : Lk × An} (h : SiW s) : (siD s).canLay0 = true := by
  have h1 : (lkD s.1).canLay0 = true := lay_strD _ (lkS_ok h.1)
  have h2 := anD_lay h.2
  simp [siD, PyData.canLay0, PyData.canLayAll0, h1, h2]
theorem siD_dep (s : Lk × An) : (siD s).depth ≤ 3 := by
  have h1 : (lkD s.1).depth ≤ 2 := dep_strD _
  have h2 := anD_dep s.2
  simp only [siD, PyData.depth, PyData.depthAll]
  omega
theorem siD_shaped {s : Lk × An} (h : SiW s) : SeqAt.shaped (siD s) = true := shaped_mk (siD_lay h) (Nat.le_trans (siD_dep s) (by decide))
section
variable {K : PySem.W.Frag} {H : Hp}
theorem lk_dp {u : Addr} {k : Lk} (h : H u = some (.tup (lkV k))) : Dp K H (.ref u) (lkD k) := .tup (SqT.of (by rw [h, lkV_S])) (dp_strs (lkS k))
theorem an_dp {v : V} {a : An} (h : AnAt H v a) : Dp K H v (anD a) := by
  cases a with
  | no =>
    cases (show v = .non from h)
    exact .non
  | tx z =>
    cases (show v = .str z from h)
    exact .str z
  | es l =>
    obtain ⟨b, rfl, hb⟩ := h
    refine .tup (SqT.of (xs := (l.map fun e => ent e.1 e.2).map V.str) ?_) (dp_strs _)
    rw [hb, List.map_map]
    rfl
theorem si_dp {v : V} {s : Lk × An} (h : SiAt H v s) : Dp K H v (siD s) := by
  obtain ⟨t, u, va, rfl, h1, h2, h3⟩ := h
  exact .tup (SqT.of h1) (.cons (lk_dp h2) (.cons (an_dp h3) .nil))
end
theorem eqv_strs : ∀ l m : List Str, PyData.eqvAll (l.map .str) (m.map .str) = decide (l = m)
  | [], [] => by simp [PyData.eqvAll]
  | [], z :: m => by simp [PyData.eqvAll]
  | z :: l, [] => by simp [PyData.eqvAll]
  | y :: l, z :: m => by
    have ih := eqv_strs l m
    simp only [List.map_cons, PyData.eqvAll, PyData.eqv, ih]
    by_cases e : y = z
    · subst e
      simp
    · have : (y == z) = false := beq_eq_false_iff_ne.mpr e
      simp [this, e]
theorem eqv_strD (l m : List Str) : PyData.eqv (strD l) (strD m) = decide (l = m) := by
  simp only [strD, PyData.eqv]
  exact eqv_strs l m
theorem lkS_inj {k k' : Lk} (h : LkW k) (h' : LkW k') (e : lkS k = lkS k') : k = k' := by
  cases k <;> cases k' <;> simp only [lkS, List.cons.injEq, and_true, reduceCtorEq, and_false] at e
  · rw [js_inj h.1 h'.1 e.2]
  · exact absurd e.1 (by decide +kernel)
  · exact absurd e.1 (by decide +kernel)
  · exact absurd e.1 (by decide +kernel)
  · rw [js_inj h.1 h'.1 e.2]
  · exact absurd e.1 (by decide +kernel)
  · exact absurd e.1 (by decide +kernel)
  · exact absurd e.1 (by decide +kernel)
  · rw [e.2]
  · rfl
theorem ents_inj : ∀ {l m : List (Str × Bool)}, (∀ e ∈ l, IsNm e.1) → (∀ e ∈ m, IsNm e.1) → (l.map fun e => ent e.1 e.2) = (m.map fun e => ent e.1 e.2) → l = m
  | [], [], _, _, _ => rfl
  | [], _ :: _, _, _, e => by simp at e
  | _ :: _, [], _, _, e => by simp at e
  | (a, b) :: l, (c, d) :: m, hl, hm, e => by
    simp only [List.map_cons, List.cons.injEq] at e
    obtain ⟨e1, e2⟩ := ent_inj (hl _ List.mem_cons_self) (hm _ List.mem_cons_self) e.1
    rw [ents_inj (fun x hx => hl x (List.mem_cons_of_mem _ hx)) (fun x hx => hm x (List.mem_cons_of_mem _ hx)) e.2]
    simp only at e1
    rw [e1, e2]
theorem eqv_lk {k k' : Lk} (h : LkW k) (h' : LkW k') : PyData.eqv (lkD k) (lkD k') = decide (k = k') := by
  show PyData.eqv (strD _) (strD _) = _
  rw [eqv_strD, decide_eq_decide]
  exact ⟨lkS_inj h h', fun e => by rw [e]⟩
theorem eqv_an {a a' : An} (h : AnW a) (h' : AnW a') : PyData.eqv (anD a) (anD a') = decide (a = a') := by
  cases a <;> cases a' <;> simp only [anD, strD, PyData.eqv]
  · simp
  · simp
  · simp
  · simp
  · rename_i y z
    by_cases e : y = z
    · subst e
      simp
    · have : (y == z) = false := beq_eq_false_iff_ne.mpr e
      simp [this, e]
  · simp
  · simp
  · simp
  · rename_i l m
    refine (eqv_strs _ _).trans ?_
    rw [decide_eq_decide]
    exact ⟨fun e => by rw [ents_inj h.1 h'.1 e], fun e => by
      cases e
      rfl⟩
theorem eqv_si {s s' : Lk × An} (h : SiW s) (h' : SiW s') : PyData.eqv (siD s) (siD s') = decide (s = s') := by
  simp only [siD, PyData.eqv, PyData.eqvAll, eqv_lk h.1 h'.1, eqv_an h.2 h'.2]
  obtain ⟨k, a⟩ := s
  obtain ⟨k', a'⟩ := s'
  by_cases e1 : k = k' <;> by_cases e2 : a = a' <;> simp [e1, e2]
end K3

set_option maxHeartbeats 3900000
namespace K3
open PySem PySem.Spec PyProof.Rows L2 TL
open C8 (pss_cut tCut pe_gc)
open CB
abbrev sFollows : Stmt := top 28
abbrev sLostF : Stmt := top 29
abbrev sLostN : Stmt := top 30
abbrev sBarE : Stmt := top 31
abbrev sDenies : Stmt := top 32
abbrev sContr : Stmt := top 33
abbrev sContrE : Stmt := top 34
def lostF (q : List Str) : Lk → Bool
  | .rd p => ben p q || ben q p
  | .ls p => decide (p = q) || ben p q
  | _ => false
def lostP (q : List Str) (l : List (Str × Bool)) (w : Bool) (p : List Str) : Bool :=
  if ben p q = true then
    match p.drop q.length with
    | [] => true
    | n :: r => if (n, true) ∈ l then w && decide (r = []) else if (n, false) ∈ l then !w || !decide (r = []) else true
  else w && (decide (q = p) || ben q p)
def lostN (q : List Str) (l : List (Str × Bool)) : Lk → Bool
  | .rd p => lostP q l true p
  | .ls p => lostP q l false p
  | _ => false
def follL (s : Lk × An) (k : Lk) : Bool := match s with
  | (.rd _, .no) => false
  | (.rd q, _) => lostF q k
  | (.ls q, .no) => match k with
    | .rd p => ben p q
    | .ls p => ben p q
    | _ => false
  | (.ls q, .es l) => lostN q l k
  | _ => false
def follM (s : Lk × An) (s' : Lk × An) : Bool := decide (s = s') || match s' with
  | (.rd p, .no) => follL s (.rd p)
  | (.ls p, .no) => follL s (.ls p)
  | _ => false
def conE (p : List Str) (e : Str × Bool) : Lk × An := (if e.2 = true then .ls (p ++ [e.1]) else .rd (p ++ [e.1]), .no)
def con : Lk × An → List (Lk × An)
  | (.rd p, .tx _) => [(.rd p, .no)]
  | (.ls p, .es l) => l.map (conE p)
  | _ => []
def denM (s : Lk × An) (xs : List (Lk × An)) : Bool := xs.any (follM s)
def barsM (s s' : Lk × An) : Bool := if s.1 = s'.1 then !decide (s.2 = s'.2) else denM s (con s') || denM s' (con s)
def SisL (H : Hp) (D : Addr) (ss : List (Lk × An)) : Prop := ∃ vs : List V, H D = some (.lst vs) ∧ vs.length = ss.length ∧ ∀ (i : Nat) (v : V) (s : Lk × An), vs[i]? = some v → ss[i]? = some s → SiAt H v s
def SiOk' (s : Lk × An) : Prop := SiOk s ∧ SiW s
def spLostF : Sp := fun vs H Q _ => ∃ q k u, vs = [.str (js q), .ref u] ∧ H u = some (.tup (lkV k)) ∧ Nms q ∧ q.length ≤ 100 ∧ LkW k ∧ ((∃ p, k = .rd p) ∨ ∃ p, k = .ls p) ∧ ∀ H', Same H H' → Q (.bl (lostF q k)) H'
def spLostN : Sp := fun vs H Q _ => ∃ q l k u a, vs = [.str (js q), .ref a, .ref u] ∧ H u = some (.tup (lkV k)) ∧ H a = some (.tup (l.map entV)) ∧ (∀ e ∈ l, IsNm e.1) ∧ Nms q ∧ q.length ≤ 100 ∧ LkW k ∧ ((∃ p, k = .rd p) ∨ ∃ p, k = .ls p) ∧ ∀ H', Same H H' → Q (.bl (lostN q l k)) H'
def spFollows : Sp := fun vs H Q _ => ∃ v v' s s', vs = [v, v'] ∧ SiAt H v s ∧ SiAt H v' s' ∧ SiOk' s ∧ SiW s' ∧ ∀ H', Same H H' → Q (.bl (follM s s')) H'
def spDenies : Sp := fun vs H Q _ => ∃ v D s ss, vs = [v, .ref D] ∧ SiAt H v s ∧ SiOk' s ∧ SisL H D ss ∧ ss.length ≤ 1000 ∧ (∀ x ∈ ss, SiW x) ∧ ∀ H', Same H H' → Q (.bl (denM s ss)) H'
def spContrE : Sp := fun vs H Q _ => ∃ p e, vs = [.str (js p), entV e] ∧ Nms p ∧ p.length ≤ 90 ∧ IsNm e.1 ∧ ∀ v H', Same H H' → SiAt H' v (conE p e) → Q v H'
def spContr : Sp := fun vs H Q _ => ∃ v s, vs = [v] ∧ SiAt H v s ∧ SiOk' s ∧ ∀ D H', Same H H' → SisL H' D (con s) → Q (.ref D) H'
def spBarE : Sp := fun vs H Q _ => ∃ v v' s s', vs = [v, v'] ∧ SiAt H v s ∧ SiAt H v' s' ∧ SiOk' s ∧ SiOk' s' ∧ ∀ H', Same H H' → Q (.bl (barsM s s')) H'
theorem SiAt.upT {H H' : Hp} {v : V} {s : Lk × An} (h : SiAt H v s) (t : TupS H H') : SiAt H' v s := by
  obtain ⟨a, u, va, e, h1, h2, h3⟩ := h
  refine ⟨a, u, va, e, t _ _ h1, t _ _ h2, ?_⟩
  cases q : s.2 with
  | no => rw [q] at h3; exact h3
  | tx z => rw [q] at h3; exact h3
  | es l =>
    rw [q] at h3
    obtain ⟨b, e, h⟩ := h3
    exact ⟨b, e, t _ _ h⟩
theorem in_ents {l : List (Str × Bool)} (hl : ∀ e ∈ l, IsNm e.1) {n : Str} (hn : IsNm n) (b : Bool) : inV (.str (ent n b)) (l.map entV) = decide ((n, b) ∈ l) := by
  have e : l.map entV = (l.map fun e => ent e.1 e.2).map V.str := by
    rw [List.map_map]
    rfl
  rw [e, inV_strs, decide_eq_decide]
  constructor
  · intro h
    obtain ⟨x, hx, e2⟩ := List.mem_map.mp h
    obtain ⟨e3, e4⟩ := ent_inj (hl x hx) hn e2
    rw [← e3, ← e4]
    exact hx
  · intro h
    exact List.mem_map.mpr ⟨_, h, rfl⟩
theorem flat_ents (l : List (Str × Bool)) : (l.map entV).all flatV = true := by
  rw [List.all_map, List.all_eq_true]
  intro x _
  rfl
section
variable {P : Program} {w : World} {K : PySem.W.Frag} {mg : Str → Option Value} {base : Heap}
theorem scLostF : FnScope ["file_path", "lost", "word", "path"] ["file_path", "lost"] (defScope sLostF) := ⟨rfl, rfl, rfl, by decide +kernel, rfl, by decide +kernel, by decide +kernel⟩
theorem ok_lostF {f fA fB : Addr} {fd fdA fdB : FuncData} (F : Fun K "lost_by_file" "lost_by_file" sLostF f fd) (aAt : At K mg "is_at_or_beneath" fA fdA ["path", "place"]) (aBen : At K mg "is_beneath" fB fdB ["path", "place"])
    (GAt : FnOk P w K mg base CX0 3 fA fdA ["path", "place"] spAt) (GBen : FnOk P w K mg base CX0 2 fB fdB ["path", "place"] spBen) : FnOk P w K mg base CX0 4 f fd ["file_path", "lost"] spLostF := by
  refine F.ok scLostF (fun vs H Q E h => ?_) (fun cdv A outer s H vs Q E hr h => ?_)
  · obtain ⟨q, k, u, rfl, _⟩ := h
    rfl
  · obtain ⟨q, k, u, rfl, hu', hq, hl, hk, hkk, fin⟩ := h
    refine ⟨_, pss_cons (ps_asg (pv 1) (pg_tup rfl (pgs_cons (pg_name (i := 2) scLostF.nd rfl (Or.inl rfl)) (pgs_cons (pg_name (i := 3) scLostF.nd rfl (Or.inl rfl)) pgs_nil))))
            (pss_cons (ps_if (pt_cmpR op_eq (pv 2) pe_str (nomark _)) (pss_one (ps_ret (pe_call GAt (hr.mono (by decide)) rfl aAt.m aAt.k aAt.b .nil pass0 (pa_cons (pv 3) (pa_cons (pv 0) pa_nil))))) (pss_nil))
            (pss_one (ps_ret (pe_or (pe_call GBen (hr.mono (by decide)) rfl aBen.m aBen.k aBen.b .nil pass0 (pa_cons (pv 3) (pa_cons (pv 0) pa_nil))) (pe_one (pe_call GBen (hr.mono (by decide)) rfl aBen.m aBen.k aBen.b .nil pass0 (pa_cons (pv 0) (pa_cons (pv 3) pa_nil)))))))), ?_⟩
    have shq := js_sh hq hl
    rcases hkk with ⟨p, rfl⟩ | ⟨p, rfl⟩
    · have shp := js_sh hk.1 hk.2
      refine ⟨_, rfl, u, _, rfl, SqT.of hu', rfl, _, _, rfl, _, _, rfl, rfl, _, rfl, rfl, _, rfl, iteN (by decide +kernel) ⟨_, rfl, _, rfl, _, _, rfl, ⟨shp, shq⟩, fun H1 s1 => ⟨_, rfl, ?_⟩⟩⟩
      rw [benS_js hk.1 hq]
      have fin : ∀ H', Same H H' → Q (.bl (ben p q || ben q p)) H' := fin
      cases e : ben p q with
      | true =>
        rw [e] at fin
        exact iteT (fin H1 s1)
      | false =>
        rw [e] at fin
        refine iteF ⟨_, rfl, _, rfl, _, _, rfl, ⟨shq, shp⟩, fun H2 s2 => ?_⟩
        show Q (.bl (benS (js q) (js p))) H2
        rw [benS_js hq hk.1]
        exact fin H2 (s1.trans s2)
    · have shp := js_sh hk.1 hk.2
      refine ⟨_, rfl, u, _, rfl, SqT.of hu', rfl, _, _, rfl, _, _, rfl, rfl, _, rfl, rfl, _, rfl, iteY rfl ⟨_, rfl, _, rfl, _, _, rfl, ⟨shp, shq⟩, fun H1 s1 => ?_⟩⟩
      show Q (.bl (decide (js p = js q) || benS (js p) (js q))) H1
      rw [benS_js hk.1 hq, js_eq hk.1 hq]
      exact fin H1 s1
theorem scLostN : FnScope ["place", "names", "lost", "word", "path", "name", "stroke", "deeper"] ["place", "names", "lost"] (defScope sLostN) := ⟨rfl, rfl, rfl, by decide +kernel, rfl, by decide +kernel, by decide +kernel⟩
theorem ok_lostN {f fA fB fR : Addr} {fd fdA fdB fdR : FuncData} (F : Fun K "lost_by_names" "lost_by_names" sLostN f fd) (T0 : TPk mg) (aAt : At K mg "is_at_or_beneath" fA fdA ["path", "place"]) (aBen : At K mg "is_beneath" fB fdB ["path", "place"]) (aRest : At K mg "rest_in" fR fdR ["path", "place"])
    (GAt : FnOk P w K mg base CX0 3 fA fdA ["path", "place"] spAt) (GBen : FnOk P w K mg base CX0 2 fB fdB ["path", "place"] spBen) (GRest : FnOk P w K mg base CX0 2 fR fdR ["path", "place"] spRest) : FnOk P w K mg base CX0 4 f fd ["place", "names", "lost"] spLostN := by
  obtain ⟨t1, mSTROKE⟩ := T0.STROKE
  refine F.ok scLostN (fun vs H Q E h => ?_) (fun cdv A outer s H vs Q E hr h => ?_)
  · obtain ⟨q, l, k, u, a, rfl, _⟩ := h
    rfl
  · obtain ⟨q, l, k, u, a, rfl, hu', ha, hl, hq, hlq, hk, hkk, fin⟩ := h
    refine ⟨_, pss_cons (ps_asg (pv 2) (pg_tup rfl (pgs_cons (pg_name (i := 3) scLostN.nd rfl (Or.inl rfl)) (pgs_cons (pg_name (i := 4) scLostN.nd rfl (Or.inl rfl)) pgs_nil))))
            (pss_cons (ps_if (pt_not (pt_val (pe_call GBen (hr.mono (by decide)) rfl aBen.m aBen.k aBen.b .nil pass0 (pa_cons (pv 4) (pa_cons (pv 0) pa_nil))))) (pss_one (ps_ret (pe_and (pe_cmpR op_eq (pv 3) pe_str (nomark _)) (pe_one (pe_call GAt (hr.mono (by decide)) rfl aAt.m aAt.k aAt.b .nil pass0 (pa_cons (pv 0) (pa_cons (pv 4) pa_nil))))))) (pss_nil))
            (pss_cons (ps_asg (pe_bm PySem.F.plainAttrs_str PySem.F.slot_str_partition PySem.F.type_str_partition mt_partition (pe_call GRest (hr.mono (by decide)) rfl aRest.m aRest.k aRest.b .nil pass0 (pa_cons (pv 4) (pa_cons (pv 0) pa_nil))) (pa_cons (pe_glob (v := .str "/") rfl mSTROKE ⟨_, rfl⟩) pa_nil)) (pg_tup rfl (pgs_cons (pg_name (i := 5) scLostN.nd rfl (Or.inl rfl)) (pgs_cons (pg_name (i := 6) scLostN.nd rfl (Or.inl rfl)) (pgs_cons (pg_name (i := 7) scLostN.nd rfl (Or.inl rfl)) pgs_nil)))))
            (pss_cons (ps_if (pt_cmpR op_in_seq (pe_op op_add_str (pv 5) (pe_glob (v := .str "/") rfl mSTROKE ⟨_, rfl⟩)) (pv 1) (by rfl)) (pss_one (ps_ret (pe_and (pe_cmpR op_eq (pv 3) pe_str (nomark _)) (pe_one (pe_cmpR op_eq (pv 7) pe_str (nomark _)))))) (pss_nil))
            (pss_cons (ps_if (pt_cmpR op_in_seq (pv 5) (pv 1) (by rfl)) (pss_one (ps_ret (pe_or (pe_cmpR op_eq (pv 3) pe_str (nomark _)) (pe_one (pe_cmpR op_eq (pv 6) (pe_glob (v := .str "/") rfl mSTROKE ⟨_, rfl⟩) (nomark _)))))) (pss_nil))
            (pss_one (ps_ret pe_bl)))))), ?_⟩
    have shq := js_sh hq hlq
    obtain ⟨wd, wb, p, hkv, hp, hlp, ewd, fin⟩ : ∃ (wd : Str) (wb : Bool) (p : List Str), lkV k = [.str wd, .str (js p)] ∧ Nms p ∧ p.length ≤ 100 ∧ ((wd = "read" ∧ wb = true) ∨ (wd = "list" ∧ wb = false)) ∧ ∀ H', Same H H' → Q (.bl (lostP q l wb p)) H' := by
      rcases hkk with ⟨p, rfl⟩ | ⟨p, rfl⟩
      · exact ⟨"read", true, p, rfl, hk.1, hk.2, .inl ⟨rfl, rfl⟩, fin⟩
      · exact ⟨"list", false, p, rfl, hk.1, hk.2, .inr ⟨rfl, rfl⟩, fin⟩
    have isR : decide (V.str wd = V.str "read") = wb := by
      rcases ewd with ⟨rfl, rfl⟩ | ⟨rfl, rfl⟩
      · rfl
      · decide +kernel
    have isL : decide (V.str wd = V.str "list") = !wb := by
      rcases ewd with ⟨rfl, rfl⟩ | ⟨rfl, rfl⟩
      · decide +kernel
      · rfl
    rw [hkv] at hu'
    have shp := js_sh hp hlp
    refine ⟨_, rfl, u, _, rfl, SqT.of hu', rfl, _, _, rfl, _, _, rfl, rfl, _, rfl, _, rfl, _, _, rfl, ⟨shp, shq⟩, fun H1 s1 => ⟨_, rfl, ?_⟩⟩
    rw [benS_js hp hq]
    unfold lostP at fin
    cases eb : ben p q with
    | false =>
      rw [eb] at fin
      refine iteT ⟨_, rfl, rfl, _, rfl, ?_⟩
      rw [isR]
      cases wb with
      | false => exact iteF (fin H1 s1)
      | true =>
        refine iteT ⟨_, rfl, _, rfl, _, _, rfl, ⟨shq, shp⟩, fun H2 s2 => ?_⟩
        show Q (.bl (decide (js q = js p) || benS (js q) (js p))) H2
        rw [benS_js hq hp, js_eq hq hp]
        exact fin H2 (s1.trans s2)
    | true =>
      rw [eb] at fin
      obtain ⟨r0, hr0, rfl⟩ := ben_iff.mp eb
      rw [if_pos rfl, List.drop_left] at fin
      match r0, hr0 with
      | n :: r, _ =>
        have hnr := hp.right
        have hn : IsNm n := hnr n List.mem_cons_self
        have hrr : Nms r := hnr.tail
        have rest : cutS (js (q ++ n :: r)) (some ((begS (js q)).length : Int)) none = js (n :: r) := by
          rw [begS_js hq]
          exact rest_bg q (by simp)
        have a1 := s1 _ _ ha
        have fin : ∀ H', Same H H' → Q (.bl (if (n, true) ∈ l then wb && decide (r = []) else if (n, false) ∈ l then !wb || !decide (r = []) else true)) H' := fin
        refine iteF ⟨_, rfl, _, rfl, _, _, rfl, ⟨shp, shq⟩, fun H2 s2 => ?_⟩
        have s12 := s1.trans s2
        dsimp only
        rw [rest]
        have shr : Sh (js (n :: r)) := js_sh hnr (by rw [List.length_append] at hlp; omega)
        refine ⟨rfl, js (n :: r), "/", rfl, rfl, rfl, shr.line, fun tp htp => ?_⟩
        rw [part_js hn]
        have fi : (if false = true then !inV (.str (n ++ "/")) (l.map entV) else inV (.str (n ++ "/")) (l.map entV)) = decide ((n, true) ∈ l) := in_ents hl hn true
        have fj : (if false = true then !inV (.str n) (l.map entV) else inV (.str n) (l.map entV)) = decide ((n, false) ∈ l) := in_ents hl hn false
        have n8 := hn.2.1
        have add : n.length + ("/" : Str).length ≤ sizeLine := Nat.le_trans (show n.length + 1 ≤ 9 by omega) (by decide)
        by_cases er : r = []
        · rw [if_pos er]
          rw [decide_eq_true er] at fin
          have sF := s1.trans (s2.trans (same_mk (o := .tup [.str (n, ("" : Str), ("" : Str)).1, .str (n, ("" : Str), ("" : Str)).2.1, .str (n, ("" : Str), ("" : Str)).2.2]) htp))
          have a3 := sF _ _ ha
          refine ⟨tp, _, rfl, SqT.of upd_same, rfl, _, _, rfl, _, _, rfl, _, _, rfl, rfl, _, rfl, _, _, rfl, rfl, add, _, rfl, a, _, rfl, .inr (SqT.of a3), rfl, flat_ents l, ?_⟩
          rw [fi]
          by_cases e1 : (n, true) ∈ l
          · rw [if_pos e1] at fin
            refine ⟨_, rfl, iteY e1 ⟨_, rfl, rfl, _, rfl, ?_⟩⟩
            rw [isR]
            cases wb with
            | false => exact iteF (fin _ sF)
            | true => exact iteT ⟨_, rfl, rfl, fin _ sF⟩
          · rw [if_neg e1] at fin
            refine ⟨_, rfl, iteN e1 ⟨_, rfl, _, rfl, a, _, rfl, .inr (SqT.of a3), rfl, flat_ents l, ?_⟩⟩
            rw [fj]
            by_cases e2 : (n, false) ∈ l
            · rw [if_pos e2] at fin
              refine ⟨_, rfl, iteY e2 ⟨_, rfl, rfl, _, rfl, ?_⟩⟩
              rw [isL]
              cases wb with
              | false => exact iteT (fin _ sF)
              | true => exact iteF ⟨_, rfl, rfl, by rw [show decide (V.str (n, ("" : Str), ("" : Str)).2.1 = V.str "/") = false from (by decide +kernel : decide (V.str ("" : Str) = V.str "/") = false)]; exact fin _ sF⟩
            · rw [if_neg e2] at fin
              exact ⟨_, rfl, iteN e2 (fin _ sF)⟩
        · rw [if_neg er]
          rw [decide_eq_false er] at fin
          have sF := s1.trans (s2.trans (same_mk (o := .tup [.str (n, ("/" : Str), js r).1, .str (n, ("/" : Str), js r).2.1, .str (n, ("/" : Str), js r).2.2]) htp))
          have a3 := sF _ _ ha
          refine ⟨tp, _, rfl, SqT.of upd_same, rfl, _, _, rfl, _, _, rfl, _, _, rfl, rfl, _, rfl, _, _, rfl, rfl, add, _, rfl, a, _, rfl, .inr (SqT.of a3), rfl, flat_ents l, ?_⟩
          rw [fi]
          by_cases e1 : (n, true) ∈ l
          · rw [if_pos e1] at fin
            refine ⟨_, rfl, iteY e1 ⟨_, rfl, rfl, _, rfl, ?_⟩⟩
            rw [isR]
            cases wb with
            | false => exact iteF (fin _ sF)
            | true => exact iteT ⟨_, rfl, rfl, by rw [decide_eq_false (show ¬ V.str (js r) = V.str "" from fun z => js_ne hrr er (V.str.inj z))]; exact fin _ sF⟩
          · rw [if_neg e1] at fin
            refine ⟨_, rfl, iteN e1 ⟨_, rfl, _, rfl, a, _, rfl, .inr (SqT.of a3), rfl, flat_ents l, ?_⟩⟩
            rw [fj]
            by_cases e2 : (n, false) ∈ l
            · rw [if_pos e2] at fin
              refine ⟨_, rfl, iteY e2 ⟨_, rfl, rfl, _, rfl, ?_⟩⟩
              rw [isL]
              cases wb with
              | false => exact iteT (fin _ sF)
              | true => exact iteF ⟨_, rfl, rfl, fin _ sF⟩
            · rw [if_neg e2] at fin
              exact ⟨_, rfl, iteN e2 (fin _ sF)⟩
theorem scFollows : FnScope ["one", "other", "look", "answer", "lost", "nothing"] ["one", "other"] (defScope sFollows) := ⟨rfl, rfl, rfl, by decide +kernel, rfl, by decide +kernel, by decide +kernel⟩
theorem ok_follows {f fF fN fB aTL : Addr} {fd fdF fdN fdB : FuncData} (F : Fun K "follows_from" "follows_from" sFollows f fd) (mTL : mg "TREE_LOOKS" = some (.ref aTL)) (hTL : ∀ H, SqT K H aTL [.str "read", .str "list"])
    (aLostF : At K mg "lost_by_file" fF fdF ["file_path", "lost"]) (aLostN : At K mg "lost_by_names" fN fdN ["place", "names", "lost"]) (aBen : At K mg "is_beneath" fB fdB ["path", "place"])
    (GLostF : FnOk P w K mg base CX0 4 fF fdF ["file_path", "lost"] spLostF) (GLostN : FnOk P w K mg base CX0 4 fN fdN ["place", "names", "lost"] spLostN) (GBen : FnOk P w K mg base CX0 2 fB fdB ["path", "place"] spBen) : FnOk P w K mg base CX0 5 f fd ["one", "other"] spFollows := by
  refine F.ok scFollows (fun vs H Q E h => ?_) (fun cdv A outer s H vs Q E hr h => ?_)
  · obtain ⟨v, v', s, s', rfl, _⟩ := h
    rfl
  · have hu := hr.units
    obtain ⟨v, v', ⟨k, a⟩, ⟨k', a'⟩, rfl, S1, S2, ok, w2, fin⟩ := h
    refine ⟨_, pss_cons (ps_asg (pv 0) (pg_tup rfl (pgs_cons (pg_name (i := 2) scFollows.nd rfl (Or.inl rfl)) (pgs_cons (pg_name (i := 3) scFollows.nd rfl (Or.inl rfl)) pgs_nil))))
            (pss_cons (ps_asg (pv 1) (pg_tup rfl (pgs_cons (pg_name (i := 4) scFollows.nd rfl (Or.inl rfl)) (pgs_cons (pg_name (i := 5) scFollows.nd rfl (Or.inl rfl)) pgs_nil))))
            (pss_cons (ps_if (pt_cmpR (op_eqD hu) (pv 0) (pv 1) (nomark _)) (pss_one (ps_ret pe_bl)) (pss_nil))
            (pss_cons (ps_if (PW.pt (pw_or (pt_cmp (pc_notN (pv 5))) (pw_or1 (pt_cmpR op_notIn_seq (pe_ix ix_tup (pv 4) pe_int (fun _ _ => rfl)) (pe_glob (v := .ref aTL) rfl mTL rfl) (by rfl))))) (pss_one (ps_ret pe_bl)) (pss_nil))
            (pss_cons (ps_if (pt_cmpR op_eq (pe_ix ix_tup (pv 2) pe_int (fun _ _ => rfl)) pe_str (nomark _)) (pss_one (ps_ret (pe_and (pe_cmp (pc_notN (pv 3)) rfl) (pe_one (pe_call GLostF (hr.mono (by decide)) rfl aLostF.m aLostF.k aLostF.b .nil pass0 (pa_cons (pe_ix ix_tup (pv 2) pe_int (fun _ _ => rfl)) (pa_cons (pv 4) pa_nil))))))) (pss_nil))
            (pss_cons (ps_if (pt_cmpR op_ne (pe_ix ix_tup (pv 2) pe_int (fun _ _ => rfl)) pe_str (nomark _)) (pss_one (ps_ret pe_bl)) (pss_nil))
            (pss_cons (ps_if (pt_cmp (pc_isN (pv 3))) (pss_one (ps_ret (pe_call GBen (hr.mono (by decide)) rfl aBen.m aBen.k aBen.b .nil pass0 (pa_cons (pe_ix ix_tup (pv 4) pe_int (fun _ _ => rfl)) (pa_cons (pe_ix ix_tup (pv 2) pe_int (fun _ _ => rfl)) pa_nil))))) (pss_nil))
            (pss_one (ps_ret (pe_call GLostN (hr.mono (by decide)) rfl aLostN.m aLostN.k aLostN.b .nil pass0 (pa_cons (pe_ix ix_tup (pv 2) pe_int (fun _ _ => rfl)) (pa_cons (pv 3) (pa_cons (pv 4) pa_nil)))))))))))), ?_⟩
    have d1 := si_dp (K := K) S1
    have d2 := si_dp (K := K) S2
    obtain ⟨t, u, va, rfl, h1, h2, h3⟩ := S1
    obtain ⟨t', u', va', rfl, h1', h2', h3'⟩ := S2
    refine ⟨_, rfl, t, _, rfl, SqT.of h1, rfl, _, _, rfl, _, _, rfl, rfl, _, rfl, t', _, rfl, SqT.of h1', rfl, _, _, rfl, _, _, rfl, rfl, ?_⟩
    refine ⟨_, rfl, _, rfl, _, _, d1, d2, siD_shaped ok.2, siD_shaped w2, ?_⟩
    rw [eqv_si ok.2 w2]
    have fin : ∀ H', Same H H' → Q (.bl (decide ((k, a) = (k', a')) || follM (k, a) (k', a'))) H' := by
      intro H' s'
      have := fin H' s'
      rw [show follM (k, a) (k', a') = (decide ((k, a) = (k', a')) || follM (k, a) (k', a')) by unfold follM; rw [← Bool.or_assoc, Bool.or_self]] at this
      exact this
    by_cases eq : ((k, a) : Lk × An) = (k', a')
    · rw [decide_eq_true eq] at fin
      exact ⟨_, rfl, iteY eq (fin H (Same.refl H))⟩
    rw [decide_eq_false eq] at fin
    refine ⟨_, rfl, iteN eq ?_⟩
    have fin : ∀ H', Same H H' → Q (.bl (match ((k', a') : Lk × An) with | (.rd p, .no) => follL (k, a) (.rd p) | (.ls p, .no) => follL (k, a) (.ls p) | _ => false)) H' := by
      intro H' s'
      have := fin H' s'
      unfold follM at this
      rw [decide_eq_false eq] at this
      exact this
    cases a' with
    | tx z =>
      cases (show va' = .str z from h3')
      refine ⟨_, rfl, _, rfl, iteT ?_⟩
      have := fin H (Same.refl H)
      cases k' <;> exact this
    | es l =>
      obtain ⟨b, rfl, _⟩ := h3'
      refine ⟨_, rfl, _, rfl, iteT ?_⟩
      have := fin H (Same.refl H)
      cases k' <;> exact this
    | no =>
      cases (show va' = .non from h3')
      by_cases tree : (∃ p, k' = .rd p) ∨ ∃ p, k' = .ls p
      · obtain ⟨wd, p, hkv, hin, hp, hlp, fin, hb⟩ : ∃ (wd : Str) (p : List Str), lkV k' = [.str wd, .str (js p)] ∧ inV (.str wd) [V.str "read", V.str "list"] = true ∧ Nms p ∧ p.length ≤ 100 ∧ (∀ H', Same H H' → Q (.bl (follL (k, a) k')) H') ∧ ∀ q, follL (.ls q, .no) k' = ben p q := by
          rcases tree with ⟨p, rfl⟩ | ⟨p, rfl⟩
          · exact ⟨"read", p, rfl, by decide +kernel, w2.1.1, w2.1.2, fin, fun q => rfl⟩
          · exact ⟨"list", p, rfl, by decide +kernel, w2.1.1, w2.1.2, fin, fun q => rfl⟩
        have h2o := h2'
        rw [hkv] at h2'
        refine ⟨_, rfl, _, rfl, iteF ⟨_, rfl, u', _, 0, _, rfl, rfl, SqT.of h2', atI_nat (j := 0) rfl, aTL, _, rfl, .inr (hTL _), rfl, rfl, ?_⟩⟩
        rw [show (if true = true then !inV (.str wd) [V.str "read", V.str "list"] else inV (.str wd) [V.str "read", V.str "list"]) = false by rw [if_pos rfl, hin]; rfl]
        refine ⟨_, rfl, iteF ?_⟩
        cases k with
        | rd q =>
          have wq := ok.2.1
          refine ⟨_, rfl, u, _, 0, _, rfl, rfl, SqT.of h2, atI_nat (j := 0) rfl, rfl, _, rfl, iteY rfl ⟨_, rfl, _, rfl, ?_⟩⟩
          cases a with
          | no =>
            cases (show va = .non from h3)
            exact iteF (fin H (Same.refl H))
          | tx z =>
            cases (show va = .str z from h3)
            exact iteT ⟨_, rfl, u, _, 1, _, rfl, rfl, SqT.of h2, atI_nat (j := 1) rfl, _, rfl, q, k', u', rfl, h2o, wq.1, wq.2, w2.1, tree, fin⟩
          | es l => exact ok.1.2.elim
        | ls q =>
          have wq := ok.2.1
          refine ⟨_, rfl, u, _, 0, _, rfl, rfl, SqT.of h2, atI_nat (j := 0) rfl, rfl, _, rfl, iteN (by decide +kernel) ⟨_, rfl, u, _, 0, _, rfl, rfl, SqT.of h2, atI_nat (j := 0) rfl, rfl, _, rfl, iteF ⟨_, rfl, _, rfl, ?_⟩⟩⟩
          cases a with
          | no =>
            cases (show va = .non from h3)
            refine iteT ⟨_, rfl, u', _, 1, _, rfl, rfl, SqT.of h2', atI_nat (j := 1) rfl, _, rfl, u, _, 1, _, rfl, rfl, SqT.of h2, atI_nat (j := 1) rfl, js p, js q, rfl, ⟨js_sh hp hlp, js_sh wq.1 wq.2⟩, fun H1 s1 => ?_⟩
            show Q (.bl (benS (js p) (js q))) H1
            rw [benS_js hp wq.1, ← hb q]
            exact fin H1 s1
          | tx z => exact ok.1.2.elim
          | es l =>
            obtain ⟨b, rfl, hb2⟩ := h3
            exact iteN (by intro z; cases z) ⟨_, rfl, u, _, 1, _, rfl, rfl, SqT.of h2, atI_nat (j := 1) rfl, _, rfl, _, rfl, q, l, k', u', b, rfl, h2o, hb2, ok.2.2.1, wq.1, wq.2, w2.1, tree, fin⟩
        | se n =>
          refine ⟨_, rfl, u, _, 0, _, rfl, rfl, SqT.of h2, atI_nat (j := 0) rfl, rfl, _, rfl, iteN (by decide +kernel) ⟨_, rfl, u, _, 0, _, rfl, rfl, SqT.of h2, atI_nat (j := 0) rfl, rfl, _, rfl, ?_⟩⟩
          exact iteT (fin H (Same.refl H))
        | tl =>
          refine ⟨_, rfl, u, _, 0, _, rfl, rfl, SqT.of h2, atI_nat (j := 0) rfl, rfl, _, rfl, iteN (by decide +kernel) ⟨_, rfl, u, _, 0, _, rfl, rfl, SqT.of h2, atI_nat (j := 0) rfl, rfl, _, rfl, ?_⟩⟩
          exact iteT (fin H (Same.refl H))
      · obtain ⟨wd, rest, hkv, hin, fin⟩ : ∃ (wd : Str) (rest : List V), lkV k' = .str wd :: rest ∧ inV (.str wd) [V.str "read", V.str "list"] = false ∧ ∀ H', Same H H' → Q (.bl false) H' := by
          cases k' with
          | rd p => exact absurd (.inl ⟨p, rfl⟩) tree
          | ls p => exact absurd (.inr ⟨p, rfl⟩) tree
          | se n => exact ⟨"setting", _, rfl, by decide +kernel, fin⟩
          | tl => exact ⟨"tool", _, rfl, by decide +kernel, fin⟩
        rw [hkv] at h2'
        refine ⟨_, rfl, _, rfl, iteF ⟨_, rfl, u', _, 0, _, rfl, rfl, SqT.of h2', atI_nat (j := 0) rfl, aTL, _, rfl, .inr (hTL _), rfl, rfl, ?_⟩⟩
        rw [show (if true = true then !inV (.str wd) [V.str "read", V.str "list"] else inV (.str wd) [V.str "read", V.str "list"]) = true by rw [if_pos rfl, hin]; rfl]
        exact ⟨_, rfl, iteT (fin H (Same.refl H))⟩
theorem scContrE : FnScope ["place", "entry", "word"] ["place", "entry"] (defScope sContrE) := ⟨rfl, rfl, rfl, by decide +kernel, rfl, by decide +kernel, by decide +kernel⟩
theorem ok_contrE {f fB : Addr} {fd fdB : FuncData} (F : Fun K "contrary_of_entry" "contrary_of_entry" sContrE f fd) (T0 : TPk mg) (aBeg : At K mg "beginning" fB fdB ["place"]) (GBeg : FnOk P w K mg base CX0 1 fB fdB ["place"] spBeg) : FnOk P w K mg base CX0 2 f fd ["place", "entry"] spContrE := by
  obtain ⟨t1, mSTROKE⟩ := T0.STROKE
  refine F.ok scContrE (fun vs H Q E h => ?_) (fun cdv A outer s H vs Q E hr h => ?_)
  · obtain ⟨p, e, rfl, _⟩ := h
    rfl
  · obtain ⟨p, ⟨n, b⟩, rfl, hp, hlp, hn, fin⟩ := h
    refine ⟨_, pss_cons (ps_set (i := 2) scContrE.nd rfl (Or.inl rfl) (pe_ifExp (pt_val (pe_bm PySem.F.plainAttrs_str PySem.F.slot_str_endswith PySem.F.type_str_endswith mt_endswith (pv 1) (pa_cons (pe_glob (v := .str "/") rfl mSTROKE ⟨_, rfl⟩) pa_nil))) pe_str pe_str))
            (pss_one (ps_ret (pe_tup (pa_cons (pe_tup (pa_cons (pv 2) (pa_cons (pe_op op_add_str (pe_call GBeg (hr.mono (by decide)) rfl aBeg.m aBeg.k aBeg.b .nil pass0 (pa_cons (pv 0) pa_nil)) (pe_bm PySem.F.plainAttrs_str PySem.F.slot_str_removesuffix PySem.F.type_str_removesuffix mt_removesuffix (pv 1) (pa_cons (pe_glob (v := .str "/") rfl mSTROKE ⟨_, rfl⟩) pa_nil))) pa_nil))) (pa_cons pe_non pa_nil))))), ?_⟩
    have hn : IsNm n := hn
    have n8 := hn.2.1
    have el : (ent n b).length ≤ sizeLine := by
      refine Nat.le_trans (show (ent n b).length ≤ 9 from ?_) (by decide)
      rw [len_tl, tl_ent, List.length_append, ← len_tl]
      cases b <;> simp <;> omega
    refine ⟨_, rfl, rfl, ent n b, "/", rfl, rfl, _, rfl, ?_⟩
    rw [ew_ent hn]
    have sh := js_sh hp (Nat.le_trans hlp (by decide))
    have go : ∀ (wd : Str), (∀ (t u : Addr) (H' : Hp), Same H H' → H' t = some (.tup [.ref u, .non]) → H' u = some (.tup [.str wd, .str (js (p ++ [n]))]) → Q (.ref t) H') →
        tRet (tTup (tCons (tTup (tCons (tVar 2) (tCons (tOp (fun x y H Q => ∃ i j, x = V.str i ∧ y = V.str j ∧ i.length + j.length ≤ sizeLine ∧ Q (V.str (i ++ j)) H) (tCall spBeg [] E0 (tCons (tVar 0) tNil)) (tBM K "str" (fun x xs H Q => ∃ a b, x = V.str a ∧ xs = [V.str b] ∧ a.length ≤ sizeLine ∧ Q (V.str (Txt.removesuffix a b)) H) (tVar 1) (tCons (tC (V.str "/")) tNil))) tNil))) (tCons (tC V.non) tNil))) { nx := fun x H' => Q V.non H', rt := Q }
          [some (.str (js p)), some (entV (n, b)), some (.str wd)] H := fun wd fin => by
      refine ⟨_, rfl, _, rfl, js p, rfl, sh, fun H1 s1 => ⟨_, rfl, rfl, ent n b, "/", rfl, rfl, el, ?_⟩⟩
      rw [rms_ent hn]
      refine ⟨_, _, rfl, rfl, ?_, by show 2 ≤ sizeLine; decide, fun u hu => ⟨by show 2 ≤ sizeLine; decide, fun t ht => ?_⟩⟩
      · rw [begS_js hp]
        have := js_len hp
        have := bg_len p
        refine Nat.le_trans (show (bg p).length + n.length ≤ 1000 from ?_) (by decide)
        rw [this]
        rw [len_tl, tl_js] at *
        split <;> omega
      · rw [begS_js hp, show bg p ++ n = js (p ++ [n]) by rw [← bg_app p (by simp), js_one]] at *
        exact fin t u _ (same_ch (same_ch s1 (s1.free hu)) ((same_ch s1 (s1.free hu)).free ht)) upd_same (same_mk ht _ _ upd_same)
    cases b with
    | true => exact iteT (go "list" fun t u H' s' h1 h2 => fin _ H' s' ⟨t, u, .non, rfl, h1, h2, rfl⟩)
    | false => exact iteF (go "read" fun t u H' s' h1 h2 => fin _ H' s' ⟨t, u, .non, rfl, h1, h2, rfl⟩)
end
end K3

set_option maxHeartbeats 3900000
namespace K3
open PySem PySem.Spec PyProof.Rows L2 TL
open C8 (pss_cut tCut pe_gc)
open CB
theorem SisL.up {H H' : Hp} {D : Addr} {ss : List (Lk × An)} (h : SisL H D ss) (s : Same H H') : SisL H' D ss := by
  obtain ⟨vs, h1, h2, h3⟩ := h
  exact ⟨vs, s _ _ h1, h2, fun i v x hv hx => (h3 i v x hv hx).up s⟩
theorem con_w {s : Lk × An} (h : SiOk' s) : ∀ x ∈ con s, SiW x := by
  obtain ⟨k, a⟩ := s
  obtain ⟨⟨hk, ha⟩, _⟩ := h
  intro x hx
  cases k with
  | rd p =>
    cases a with
    | no => cases hx
    | tx z =>
      rw [show con (.rd p, .tx z) = [(.rd p, .no)] from rfl, List.mem_singleton] at hx
      rw [hx]
      exact ⟨⟨hk.2.1, Nat.le_trans hk.2.2 (by decide)⟩, trivial⟩
    | es l => exact ha.elim
  | ls p =>
    cases a with
    | no => cases hx
    | tx z => cases hx
    | es l =>
      obtain ⟨e, he, rfl⟩ := List.mem_map.mp (show x ∈ l.map (conE p) from hx)
      have hn := ha.1.1 e he
      have hl : (p ++ [e.1]).length ≤ 100 := by
        have := hk.2
        rw [List.length_append]
        show p.length + 1 ≤ 100
        omega
      have hm : Nms (p ++ [e.1]) := hk.1.app fun y hy => by
        rw [List.mem_singleton.mp hy]
        exact hn
      unfold conE
      cases e.2
      · exact ⟨⟨hm, hl⟩, trivial⟩
      · exact ⟨⟨hm, hl⟩, trivial⟩
  | se n => cases a <;> cases hx
  | tl => cases a <;> cases hx
theorem con_len {s : Lk × An} (h : SiOk' s) : (con s).length ≤ 1000 := by
  obtain ⟨k, a⟩ := s
  obtain ⟨⟨hk, ha⟩, _⟩ := h
  cases k <;> cases a <;> first | exact Nat.zero_le _ | skip
  · exact (by decide : 1 ≤ 1000)
  · show (List.map _ _).length ≤ 1000
    rw [List.length_map]
    exact ha.1.2.2
section
variable {P : Program} {w : World} {K : PySem.W.Frag} {mg : Str → Option Value} {base : Heap}
theorem scDenies : FnScope ["sight", "others", "other"] ["sight", "others"] (defScope sDenies) := ⟨rfl, rfl, rfl, by decide +kernel, rfl, by decide +kernel, by decide +kernel⟩
theorem ok_denies {f fF : Addr} {fd fdF : FuncData} (F : Fun K "denies_some" "denies_some" sDenies f fd) (T : TB mg) (aFollows : At K mg "follows_from" fF fdF ["one", "other"]) (GFollows : FnOk P w K mg base CX0 5 fF fdF ["one", "other"] spFollows) : FnOk P w K mg base CX0 6 f fd ["sight", "others"] spDenies := by
  refine F.ok scDenies (fun vs H Q E h => ?_) (fun cdv A outer s H vs Q E hr h => ?_)
  · obtain ⟨v, D, s, ss, rfl, _⟩ := h
    rfl
  · obtain ⟨v, D, s, ss, rfl, hs, ok, ⟨vs, hD, hl, hv⟩, h1000, hw, fin⟩ := h
    refine ⟨_, pss_one (ps_ret (pe_callB (cr_any rfl) (by rfl) T.any boot_any (pa_cons (pe_lc (own := [("other", 2)]) (g := gName 2) (tt := tYes) rfl scDenies.nd (pi_list (pv 1)) (blkOk_by (own := [("other", 2)]) (N := ["sight", "others", "other"]) (sc := defScope sDenies) (by decide +kernel)) (fun _ _ _ _ _ => (pg_name (i := 2) scDenies.nd rfl (Or.inl rfl))) (fun _ _ _ _ _ => pts_nil) (fun _ _ _ _ _ => (by exact (pe_call GFollows (hr.mono (by decide)) rfl aFollows.m aFollows.k aFollows.b .nil pass0 (pa_cons (pv 0) (pa_cons (pv 2) pa_nil)))))) pa_nil))), ?_⟩
    have ez : ∀ z ∈ vs.zip ss, SiAt H z.1 z.2 ∧ SiW z.2 := by
      intro z hz
      obtain ⟨i, hi⟩ := List.mem_iff_getElem?.mp hz
      rw [List.getElem?_zip_eq_some] at hi
      exact ⟨hv i _ _ hi.1 hi.2, hw _ (List.mem_of_getElem? hi.2)⟩
    have e1 : (vs.zip ss).map Prod.fst = vs := List.map_fst_zip (by omega)
    have e2 : (vs.zip ss).map Prod.snd = ss := List.map_snd_zip (by omega)
    have hz : (vs.zip ss).length < 1000000 := by
      rw [List.length_zip]
      omega
    refine ⟨_, rfl, D, rfl, ⟨_, SqL.of hD⟩, fun L hL => ?_⟩
    refine lc_mapL (vs.zip ss) Prod.fst (fun z => .bl (follM s z.2)) hz hL (SqL.of (by rw [e1]; exact hD)) ?_ ?_
    · intro z hz H2 s2 Q1 k1
      obtain ⟨a1, a2⟩ := ez z hz
      exact ⟨_, rfl, _, rfl, _, _, s, z.2, rfl, hs.up s2, a1.up s2, ok, a2, k1⟩
    · intro H' s' hL'
      refine any_of (vs.zip ss) (fun z => follM s z.2) hL' ?_
      have : ((vs.zip ss).any fun z => follM s z.2) = denM s ss := by
        unfold denM
        conv => rhs; rw [← e2]
        rw [List.any_map]
        rfl
      rw [this]
      exact fin H' s'
theorem scContr : FnScope ["sight", "look", "answer", "entry"] ["sight"] (defScope sContr) := ⟨rfl, rfl, rfl, by decide +kernel, rfl, by decide +kernel, by decide +kernel⟩
theorem ok_contr {f fE aTL : Addr} {fd fdE : FuncData} (F : Fun K "contraries" "contraries" sContr f fd) (mTL : mg "TREE_LOOKS" = some (.ref aTL)) (hTL : ∀ H, SqT K H aTL [.str "read", .str "list"]) (aContrE : At K mg "contrary_of_entry" fE fdE ["place", "entry"])
    (GContrE : FnOk P w K mg base CX0 2 fE fdE ["place", "entry"] spContrE) : FnOk P w K mg base CX0 3 f fd ["sight"] spContr := by
  refine F.ok scContr (fun vs H Q E h => ?_) (fun cdv A outer s H vs Q E hr h => ?_)
  · obtain ⟨v, s, rfl, _⟩ := h
    rfl
  · obtain ⟨v, ⟨k, a⟩, rfl, ⟨t, u, va, rfl, h1, h2, h3⟩, ok, fin⟩ := h
    refine ⟨_, pss_cons (ps_asg (pv 0) (pg_tup rfl (pgs_cons (pg_name (i := 1) scContr.nd rfl (Or.inr rfl)) (pgs_cons (pg_name (i := 2) scContr.nd rfl (Or.inl rfl)) pgs_nil))))
            (pss_cons (ps_if (PW.pt (pw_or (pt_cmp (pc_isN (pv 2))) (pw_or1 (pt_cmpR op_notIn_seq (pe_ix ix_tup (pv 1) pe_int (fun _ _ => rfl)) (pe_glob (v := .ref aTL) rfl mTL rfl) (by rfl))))) (pss_one (ps_ret (pe_lst pa_nil))) (pss_nil))
            (pss_cons (ps_if (pt_cmpR op_eq (pe_ix ix_tup (pv 1) pe_int (fun _ _ => rfl)) pe_str (nomark _)) (pss_one (ps_ret (pe_lst (pa_cons (pe_tup (pa_cons (pv 1) (pa_cons pe_non pa_nil))) pa_nil)))) (pss_nil))
            (pss_one (ps_ret (pe_lc (own := [("entry", 3)]) (g := gName 3) (tt := tYes) rfl scContr.nd (pi_tup (pv 2)) (blkOk_by (own := [("entry", 3)]) (N := ["sight", "look", "answer", "entry"]) (sc := defScope sContr) (by decide +kernel)) (fun _ _ _ _ _ => (pg_name (i := 3) scContr.nd rfl (Or.inl rfl))) (fun _ _ _ _ _ => pts_nil) (fun _ _ _ _ _ => (by exact (pe_call GContrE (hr.mono (by decide)) rfl aContrE.m aContrE.k aContrE.b .nil pass0 (pa_cons (pe_ix (ix_tupK (K0 := K) rfl) (pv 1) pe_int (fun _ _ => rfl)) (pa_cons (pv 3) pa_nil)))))))))), ?_⟩
    refine ⟨_, rfl, t, _, rfl, SqT.of h1, rfl, _, _, rfl, _, _, rfl, rfl, ?_⟩
    have none : con (k, a) = [] → ∀ D, H D = Option.none → Q (.ref D) (upd H D (.lst [])) := fun e D hD => fin D _ (same_mk hD) (by
      rw [e]
      exact ⟨[], upd_same, rfl, fun i v s h => by cases h⟩)
    have rest : ∀ (wd : Str) (r : List V) (b : Bool), lkV k = .str wd :: r → inV (.str wd) [V.str "read", V.str "list"] = b → (if true = true then !inV (.str wd) [V.str "read", V.str "list"] else inV (.str wd) [V.str "read", V.str "list"]) = !b := fun wd r b _ h => by
      rw [if_pos rfl, h]
    cases a with
    | no =>
      cases (show va = .non from h3)
      exact ⟨_, rfl, _, rfl, iteT ⟨Nat.zero_le _, fun D hD => none (by cases k <;> rfl) D hD⟩⟩
    | tx z =>
      cases (show va = .str z from h3)
      cases k with
      | rd p =>
        refine ⟨_, rfl, _, rfl, iteN (by intro z; cases z) ⟨_, rfl, u, _, 0, _, rfl, rfl, SqT.of h2, atI_nat (j := 0) rfl, aTL, _, rfl, .inr (hTL _), rfl, rfl, ?_⟩⟩
        rw [rest "read" _ true rfl (by decide +kernel)]
        refine ⟨_, rfl, iteF ⟨_, rfl, u, _, 0, _, rfl, rfl, SqT.of h2, atI_nat (j := 0) rfl, rfl, _, rfl, iteY rfl ⟨_, rfl, by show 2 ≤ sizeLine; decide, fun t' ht' => ⟨by show 1 ≤ sizeLine; decide, fun D hD => ?_⟩⟩⟩⟩
        have s1 := same_mk (o := .tup [.ref u, .non]) ht'
        refine fin D _ (same_ch s1 (s1.free hD)) ⟨[.ref t'], upd_same, rfl, fun i v s hv hs => ?_⟩
        match i, hv, hs with
        | 0, hv, hs =>
          cases hv
          cases hs
          exact ⟨t', u, .non, rfl, same_mk hD _ _ upd_same, same_mk hD _ _ (s1 _ _ h2), rfl⟩
      | ls p => exact ok.1.2.elim
      | se n =>
        refine ⟨_, rfl, _, rfl, iteN (by intro z; cases z) ⟨_, rfl, u, _, 0, _, rfl, rfl, SqT.of h2, atI_nat (j := 0) rfl, aTL, _, rfl, .inr (hTL _), rfl, rfl, ?_⟩⟩
        rw [rest "setting" _ false rfl (by decide +kernel)]
        exact ⟨_, rfl, iteT ⟨Nat.zero_le _, fun D hD => none rfl D hD⟩⟩
      | tl =>
        refine ⟨_, rfl, _, rfl, iteN (by intro z; cases z) ⟨_, rfl, u, _, 0, _, rfl, rfl, SqT.of h2, atI_nat (j := 0) rfl, aTL, _, rfl, .inr (hTL _), rfl, rfl, ?_⟩⟩
        rw [rest "tool" _ false rfl (by decide +kernel)]
        exact ⟨_, rfl, iteT ⟨Nat.zero_le _, fun D hD => none rfl D hD⟩⟩
    | es l =>
      obtain ⟨b, rfl, hb⟩ := h3
      cases k with
      | rd p => exact ok.1.2.elim
      | se n => exact ok.1.2.elim
      | tl => exact ok.1.2.elim
      | ls p =>
        refine ⟨_, rfl, _, rfl, iteN (by intro z; cases z) ⟨_, rfl, u, _, 0, _, rfl, rfl, SqT.of h2, atI_nat (j := 0) rfl, aTL, _, rfl, .inr (hTL _), rfl, rfl, ?_⟩⟩
        rw [rest "list" _ true rfl (by decide +kernel)]
        refine ⟨_, rfl, iteF ⟨_, rfl, u, _, 0, _, rfl, rfl, SqT.of h2, atI_nat (j := 0) rfl, rfl, _, rfl, iteN (by decide +kernel) ?_⟩⟩
        refine ⟨_, rfl, b, rfl, ⟨_, SqT.of hb⟩, fun D hD => ?_⟩
        have h1000 : l.length ≤ 1000 := ok.1.2.1.2.2
        refine lcR (walk_tup (K := K) (a := b) (xs := l.map entV)) (fun i y H => ∀ e, l[i]? = some e → SiAt H y (conE p e)) (fun i y H H' t h e he => (h e he).upT t) (by rw [List.length_map]; omega) hD (fun H' s => sameT s (SqT.of hb)) ?_ ?_
        · rintro i x H2 H3 hi s2 ⟨rfl, hx⟩ Q1 k1
          rw [List.getElem?_map] at hx
          match q : l[i]? with
          | Option.none =>
            rw [q] at hx
            cases hx
          | some e =>
            rw [q] at hx
            cases hx
            exact ⟨_, rfl, u, _, 0 + 1, _, rfl, rfl, SqT.of (s2 _ _ h2), atI_nat (j := 1) rfl, _, rfl, p, e, rfl, ok.1.1.1, ok.1.1.2, ok.1.2.1.1 e (List.mem_of_getElem? q), fun v H4 s4 hv => k1 v H4 s4 fun e' he' => by
              rw [q] at he'
              cases he'
              exact hv⟩
        · intro ys H' hl s' hD' hr
          rw [List.length_map] at hl
          refine fin D H' s' ⟨ys, hD', by rw [hl]; exact (List.length_map _).symm, fun i v s hv hs => ?_⟩
          have hs : (l.map (conE p))[i]? = some s := hs
          rw [List.getElem?_map] at hs
          match q : l[i]? with
          | Option.none =>
            rw [q] at hs
            cases hs
          | some e =>
            rw [q] at hs
            cases hs
            exact hr i v hv e q
theorem scBarE : FnScope ["one", "other"] ["one", "other"] (defScope sBarE) := ⟨rfl, rfl, rfl, by decide +kernel, rfl, by decide +kernel, by decide +kernel⟩
theorem ok_barE {f fD fC : Addr} {fd fdD fdC : FuncData} (F : Fun K "bar_each_other" "bar_each_other" sBarE f fd) (aDenies : At K mg "denies_some" fD fdD ["sight", "others"]) (aContr : At K mg "contraries" fC fdC ["sight"])
    (GDenies : FnOk P w K mg base CX0 6 fD fdD ["sight", "others"] spDenies) (GContr : FnOk P w K mg base CX0 3 fC fdC ["sight"] spContr) : FnOk P w K mg base CX0 7 f fd ["one", "other"] spBarE := by
  refine F.ok scBarE (fun vs H Q E h => ?_) (fun cdv A outer s H vs Q E hr h => ?_)
  · obtain ⟨v, v', s, s', rfl, _⟩ := h
    rfl
  · have hu := hr.units
    obtain ⟨v, v', s, s', rfl, S1, S2, ok, ok', fin⟩ := h
    refine ⟨_, pss_cons (ps_if (pt_cmpR (op_eqD hu) (pe_ix ix_tup (pv 0) pe_int (fun _ _ => rfl)) (pe_ix ix_tup (pv 1) pe_int (fun _ _ => rfl)) (nomark _)) (pss_one (ps_ret (pe_cmpR (op_neD hu) (pe_ix ix_tup (pv 0) pe_int (fun _ _ => rfl)) (pe_ix ix_tup (pv 1) pe_int (fun _ _ => rfl)) (nomark _)))) (pss_nil))
            (pss_one (ps_ret (pe_or (pe_call GDenies (hr.mono (by decide)) rfl aDenies.m aDenies.k aDenies.b .nil pass0 (pa_cons (pv 0) (pa_cons (pe_call GContr (hr.mono (by decide)) rfl aContr.m aContr.k aContr.b .nil pass0 (pa_cons (pv 1) pa_nil)) pa_nil))) (pe_one (pe_call GDenies (hr.mono (by decide)) rfl aDenies.m aDenies.k aDenies.b .nil pass0 (pa_cons (pv 1) (pa_cons (pe_call GContr (hr.mono (by decide)) rfl aContr.m aContr.k aContr.b .nil pass0 (pa_cons (pv 0) pa_nil)) pa_nil))))))), ?_⟩
    have S1o := S1
    have S2o := S2
    obtain ⟨t, u, va, rfl, h1, h2, h3⟩ := S1
    obtain ⟨t', u', va', rfl, h1', h2', h3'⟩ := S2
    refine ⟨_, rfl, t, _, 0, _, rfl, rfl, SqT.of h1, atI_nat (j := 0) rfl, _, rfl, t', _, 0, _, rfl, rfl, SqT.of h1', atI_nat (j := 0) rfl, _, _, lk_dp h2, lk_dp h2', lkD_shaped ok.2.1, lkD_shaped ok'.2.1, ?_⟩
    rw [eqv_lk ok.2.1 ok'.2.1]
    unfold barsM at fin
    by_cases e : s.1 = s'.1
    · rw [if_pos e] at fin
      refine ⟨_, rfl, iteY e ⟨_, rfl, t, _, 1, _, rfl, rfl, SqT.of h1, atI_nat (j := 1) rfl, _, rfl, t', _, 1, _, rfl, rfl, SqT.of h1', atI_nat (j := 1) rfl, _, _, an_dp h3, an_dp h3', anD_shaped ok.2.2, anD_shaped ok'.2.2, ?_⟩⟩
      rw [eqv_an ok.2.2 ok'.2.2]
      exact fin H (Same.refl H)
    · rw [if_neg e] at fin
      refine ⟨_, rfl, iteN e ⟨_, rfl, _, rfl, .ref t', s', rfl, S2o, ok', fun D H1 s1 hD => ⟨.ref t, D, s, con s', rfl, S1o.up s1, ok, hD, con_len ok', con_w ok', fun H2 s2 => ⟨_, rfl, ?_⟩⟩⟩⟩
      cases e1 : denM s (con s') with
      | true =>
        rw [e1] at fin
        exact iteT (fin H2 (s1.trans s2))
      | false =>
        rw [e1] at fin
        have s12 := s1.trans s2
        exact iteF ⟨_, rfl, _, rfl, .ref t, s, rfl, S1o.up s12, ok, fun D' H3 s3 hD' => ⟨.ref t', D', s', con s, rfl, (S2o.up s12).up s3, ok', hD', con_len ok, con_w ok, fun H4 s4 => fin H4 ((s12.trans s3).trans s4)⟩⟩
end
end K3

set_option maxHeartbeats 3900000
namespace CB
open PySem PySem.Spec PyProof.Rows L2 PyProof.V
def rMulS : R2 := fun x y H Q => ∃ (z : Str) (b : Bool), x = .str z ∧ y = .int (b2i b) ∧ z.length ≤ sizeLine ∧ Q (.str (if b = true then z else "")) H
section
variable {X : Cx}
theorem op_mulS : OpR X (binaryOp .Mult) rMulS := by
  intro pins s σ H x y v u Q I rx ry h
  obtain ⟨z, b, rfl, rfl, hz, q⟩ := h
  obtain ⟨t, rfl⟩ := rx
  obtain ⟨t', rfl⟩ := ry
  cases b with
  | false => exact P.mul_str_none (by decide) (by decide) ⟨.str "", H, I.tok _, ⟨_, rfl⟩, q⟩
  | true =>
    refine P.mul_str (by decide) (fun _ h => by cases h) (fun _ h => by cases h) ?_
    show (Made.val (.str z t)).post _ s
    exact ⟨.str z, H, I, ⟨_, rfl⟩, q⟩
def rSetdT : V → List V → Hp → VK → Prop := fun x xs H Q => ∃ (a : Addr) (kvs : List (List L2.Key × V)) (k : List L2.Key) (b : Addr) (d : V), x = .ref a ∧ xs = [.ref b, d] ∧ H a = some (.dT kvs) ∧ H b = some (.tup (k.map kV)) ∧ kvs.length < sizeLine ∧
  (∀ v, valV kvs k = some v → Q v H) ∧ (valV kvs k = none → Q d (upd H a (.dT (putK kvs k d))))
theorem mt_setdT (hu : X.A.units + 1 < cLine) : MtR X "dict.setdefault" rSetdT := by
  intro pins s σ H x xs v us Q I rx rxs h
  obtain ⟨a, kvs, k, b, d, rfl, rfl, ha, hb, hl, q1, q2⟩ := h
  cases rx
  obtain ⟨u1, u2, rfl, r1, r2⟩ := vals2 rxs
  cases r1
  obtain ⟨z, hd, xs', rel, dd⟩ := dt_of I.hok ha
  have hz : xs'.length ≤ sizeLine := by
    rw [← Paired.length rel]
    exact z
  refine call_setdefault_heap (knd := tupleKind (mixKind X.prog X.w)) (k := k) (tupleKind_room_in1 hu) (key_of I.hok hb) hd dd (fun p hp => ?_) (fun hn h' dd' hs => ?_) hz
  · have r := rel.val k
    rw [hp] at r
    obtain ⟨v0, ev, rv⟩ : ∃ v0, valV kvs k = some v0 ∧ RelV v0 p.2 := by
      cases ev : valV kvs k with
      | none =>
        rw [ev] at r
        exact (show False from r).elim
      | some v0 =>
        rw [ev] at r
        exact ⟨v0, rfl, r⟩
    exact ⟨v0, H, I.tok _, rv, q1 v0 ev⟩
  · have r := rel.val k
    rw [hn] at r
    have e : valV kvs k = none := by
      cases ev : valV kvs k with
      | none => rfl
      | some v0 =>
        rw [ev] at r
        exact (show False from r).elim
    obtain ⟨o, es, ep, hq, h2, h3, h4, _, h5⟩ := dd'
    have hl2 : (putK kvs k d).length ≤ sizeLine := by
      have := length_putK kvs k d
      omega
    refine ⟨d, _, d_write (ob := .dT (putK kvs k d)) I (by rw [ha]; exact True.intro) hs ⟨o, hq⟩ ⟨hl2, hd, _, (rel.put k hb r2).keeps fun c ys ec => ?_, o, es, ep, hq, h2, h3, h4, h5⟩, r2, q2 e⟩
    rw [upd_ne (ne_of ec ha (fun z => nomatch z))]
    exact ec
variable {K0 : PySem.W.Frag}
theorem len_seqK (hK : X.K = K0) : CallR X (.builtin "len") (fun xs H Q => ∃ p ys, xs = [V.ref p] ∧ (SqL K0 H p ys ∨ SqT K0 H p ys) ∧ Q (V.int (ys.length : Int)) H) := by
  subst hK
  exact call_len_seq
theorem sl_listK (hK : X.K = K0) : SlR X (rSlL K0) := by
  subst hK
  exact sl_list
def tJoinK (K0 : PySem.W.Frag) (to te : TE) : TE := tM1 (fun x xs H Q => ∃ a p, ∃ ys : List Str, x = .str a ∧ xs = [.ref p] ∧ (SqL K0 H p (ys.map V.str) ∨ SqT K0 H p (ys.map V.str)) ∧ (ys.map (·.length)).sum + ys.length * a.length ≤ 16777216 ∧ Q (.str (Txt.join a ys)) H) to te
theorem pe_joinK {o e : Expr} {to te : TE} {apos pos : Pos} (hK : X.K = K0) (ho : PE X o to) (he : PE X e te) (h1 : starEach [e] X.env = [(false, eval e X.env)] := by rfl) (h2 : attributeBase o "join" X.env (eval o X.env) = eval o X.env := by rfl)
    (h3 : (apos.endLine == pos.line) = true := by rfl) : PE X (.Call (.Attribute o "join" apos) [e] [] pos) (tJoinK K0 to te) := by
  subst hK
  exact pe_join ho he h1 h2 h3
end
end CB

set_option maxHeartbeats 3900000
namespace K3
open PySem PySem.Spec PyProof.Rows L2 TL
open C8 (pss_cut tCut pe_gc)
open CB
abbrev sBeneath : Stmt := top 62
def spBeneath : Sp := fun vs H Q _ => ∃ p q, vs = [.str (js p), .str (js q)] ∧ Nms p ∧ Nms q ∧ q.length ≤ 100 ∧ p.length ≤ 100 ∧ ∀ H', Same H H' → Q (.bl (ben p q)) H'
def LksL (H : Hp) (D : Addr) (ks : List Lk) : Prop := ∃ vs : List V, H D = some (.lst vs) ∧ vs.length = ks.length ∧ ∀ (i : Nat) (v : V) (k : Lk), vs[i]? = some v → ks[i]? = some k → ∃ t, v = .ref t ∧ H t = some (.tup (lkV k))
def spLooks : Sp := fun vs H Q _ => ∃ (st l p : Addr) (c : Nat) (zs : List Str) (many : Int), vs = [.ref st, .ref p, .int many] ∧ Strm H st l c ∧ c ≤ 700000 ∧ Pool H st l p zs ∧ 0 < zs.length ∧ zs.length < 1000 ∧ (∀ z ∈ zs, IsNm z) ∧ 0 ≤ many ∧ many ≤ 100 ∧
  ∀ (D : Addr) (ks : List Lk) (H' : Hp) (c' : Nat), (ks.length : Int) ≤ many → (∀ k ∈ ks, LkOn zs 3 k) → ks.Nodup → H D = none → LksL H' D ks → But st l H H' → Strm H' st l c' → c' ≤ c + 6 * many.toNat → Q (.ref D) H'
abbrev Oka (z : Str) : Prop := Okz z ∧ z.length ≤ 20
section
variable {P : Program} {w : World} {K : PySem.W.Frag} {mg : Str → Option Value} {base : Heap} {fD fP fPa fFr fMx fTe fLo : Addr} {fdD fdP fdPa fdFr fdMx fdTe fdLo : FuncData}
theorem scMx : FnScope ["_law_stream", "_law_things", "_law_left", "_law_k"] ["_law_stream", "_law_things"] (defScope sMixed) := ⟨rfl, rfl, rfl, by decide +kernel, rfl, by decide +kernel, by decide +kernel⟩
theorem scBe : FnScope ["_law_path_here", "_law_other"] ["_law_path_here", "_law_other"] (defScope sBeneath) := ⟨rfl, rfl, rfl, by decide +kernel, rfl, by decide +kernel, by decide +kernel⟩
theorem ok_beneath {f : Addr} {fd : FuncData} (F : Fun K "_law_beneath" "_law_beneath" sBeneath f fd) (T : TB mg) : FnOk P w K mg base CX0 1 f fd ["_law_path_here", "_law_other"] spBeneath := by
  refine F.ok scBe (fun vs H Q E h => ?_) (fun cdv A outer s H vs Q E hr h => ?_)
  · obtain ⟨p, q, rfl, _⟩ := h
    rfl
  · obtain ⟨p, q, rfl, hp, hq, lq, lp, k⟩ := h
    refine ⟨_, pss_one (ps_ret (pe_and (pe_cmpR op_ne (pv 0) pe_str (nomark _)) (pe_one (pe_or (pe_cmpR op_eq (pv 1) pe_str (nomark _)) (pe_one (pe_cmpR op_eq (pe_slice sl_str (pv 0) po_none (po_some (pe_op op_add (pe_callB call_len_str (by rfl) T.len PySem.boot_len (pa_cons (pv 1) pa_nil)) pe_int))) (pe_op op_add_str (pv 1) pe_str) (nomark _))))))), ?_⟩
    have shp := js_sh hp lp
    have shq := js_sh hq lq
    refine ⟨_, rfl, rfl, _, rfl, ?_⟩
    by_cases ep : p = []
    · subst ep
      have e : ben [] q = false := by
        unfold ben
        cases q <;> rfl
      rw [e] at k
      exact iteF (k H (Same.refl H))
    rw [decide_eq_false (show ¬ V.str (js p) = V.str "" from fun z => js_ne hp ep (V.str.inj z))]
    refine iteT ⟨_, rfl, rfl, _, rfl, ?_⟩
    by_cases eq : q = []
    · subst eq
      have e : ben p [] = true := ben_iff.mpr ⟨p, ep, rfl⟩
      rw [e] at k
      exact iteT (k H (Same.refl H))
    rw [decide_eq_false (show ¬ V.str (js q) = V.str "" from fun z => js_ne hq eq (V.str.inj z))]
    have add : (js q).length + ("/" : Str).length ≤ sizeLine := by
      have := shq
      unfold Sh at this
      exact Nat.le_trans (show (js q).length + 1 ≤ 1001 by omega) (by decide)
    refine iteF ⟨_, rfl, _, rfl, _, rfl, shq.line, _, _, rfl, rfl, _, rfl, js p, rfl, shp.line, _, rfl, _, _, rfl, rfl, add, rfl, ?_⟩
    have e := head_bg hp hq eq
    have e2 : decide (V.str (cutS (js p) none (some (((js q).length : Int) + 1))) = V.str (js q ++ "/")) = ben p q := by
      rw [← e, decide_eq_decide]
      exact ⟨fun z => V.str.inj z, fun z => congrArg V.str z⟩
    rw [e2]
    exact k H (Same.refl H)
theorem dp_lks {H : Hp} : ∀ {vs : List V} {ks : List Lk}, vs.length = ks.length → (∀ (i : Nat) (v : V) (k : Lk), vs[i]? = some v → ks[i]? = some k → ∃ t, v = .ref t ∧ H t = some (.tup (lkV k))) → DpAll K H vs (ks.map lkD)
  | [], [], _, _ => .nil
  | [], _ :: _, h, _ => by cases h
  | _ :: _, [], h, _ => by cases h
  | v :: vs, k :: ks, h, a => by
    obtain ⟨t, rfl, ht⟩ := a 0 v k rfl rfl
    exact .cons (lk_dp ht) (dp_lks (Nat.succ.inj h) fun i v' k' hv hk => a (i + 1) v' k' hv hk)
theorem lay_lks : ∀ ks : List Lk, (∀ k ∈ ks, LkW k) → PyData.canLayAll0 (ks.map lkD) = true
  | [], _ => by simp [PyData.canLayAll0]
  | k :: r, h => by
    have h1 : (lkD k).canLay0 = true := lay_strD _ (lkS_ok (h k List.mem_cons_self))
    simp [PyData.canLayAll0, lay_lks r fun y hy => h y (List.mem_cons_of_mem _ hy), h1]
theorem dep_lks : ∀ ks : List Lk, PyData.depthAll (ks.map lkD) ≤ 2
  | [] => by simp [PyData.depthAll]
  | k :: r => by
    have h1 : (lkD k).depth ≤ 2 := dep_strD _
    have := dep_lks r
    simp only [List.map_cons, PyData.depthAll]
    omega
theorem shaped_lks (ks : List Lk) (h : ∀ k ∈ ks, LkW k) : SeqAt.shaped (.list (ks.map lkD)) = true := by
  refine shaped_mk ?_ ?_
  · simp only [PyData.canLay0]
    exact lay_lks ks h
  · have := dep_lks ks
    simp only [PyData.depth]
    omega
theorem lkOn_w {zs : List Str} {m : Nat} {k : Lk} (hz : ∀ z ∈ zs, IsNm z) (hm : m ≤ 100) (h : LkOn zs m k) : LkW k := by
  cases k with
  | rd p => exact ⟨fun y hy => hz y (h.2.2 y hy), Nat.le_trans h.2.1 hm⟩
  | ls p => exact ⟨fun y hy => hz y (h.2 y hy), Nat.le_trans h.1 hm⟩
  | se n => exact hz n h
  | tl => trivial
theorem scLs : FnScope ["_law_stream", "_law_pool_here", "_law_many", "_law_found", "_law_k", "_law_look_here"] ["_law_stream", "_law_pool_here", "_law_many"] (defScope sLooks) := ⟨rfl, rfl, rfl, by decide +kernel, rfl, by decide +kernel, by decide +kernel⟩
theorem ok_looks {f : Addr} {fd : FuncData} (F : Fun K "_law_looks" "_law_looks" sLooks f fd) (T : TB mg) (aLo : At K mg "_law_look" fLo fdLo ["_law_stream", "_law_pool_here"]) (GLo : FnOk P w K mg base CX0 4 fLo fdLo ["_law_stream", "_law_pool_here"] spLook) : FnOk P w K mg base CX0 5 f fd ["_law_stream", "_law_pool_here", "_law_many"] spLooks := by
  refine F.ok scLs (fun vs H Q E h => ?_) (fun cdv A outer s H vs Q E hr h => ?_)
  · obtain ⟨st, l, p, c, zs, many, rfl, _⟩ := h
    rfl
  · obtain ⟨st, l, p, c, zs, many, rfl, S, hc, L, z0, z1, nm, m0, m1, k⟩ := h
    obtain ⟨n, rfl⟩ := Int.eq_ofNat_of_zero_le m0
    have hu5 := hr.un
    have hu5 : (A.deeper (envOfC "_law_looks" (defScope sLooks) s.heap.objs.size f cdv)).units + 65 < cLine := by omega
    refine ⟨_, pss_cons (ps_set (i := 3) scLs.nd rfl (Or.inl rfl) (pe_lst pa_nil))
            (pss_cons (ps_for PassesOwn.never rfl (pi_range1 rfl T.range (pa_cons (pv 2) pa_nil)) (pg_name (i := 4) scLs.nd rfl (Or.inl rfl)) (pss_cons (ps_set (i := 5) scLs.nd rfl (Or.inl rfl) (pe_call GLo (hr.mono (by decide)) rfl aLo.m aLo.k aLo.b .nil pass0 (pa_cons (pv 0) (pa_cons (pv 1) pa_nil))))
            (pss_one (ps_expr (pe_bm PySem.F.plainAttrs_list PySem.F.slot_list_extend PySem.F.type_list_extend mt_extend (pv 3) (pa_cons (pe_op op_rep (pe_lst (pa_cons (pv 5) pa_nil)) (pe_callTy call_int1 (by rfl) T.int (by decide +kernel) (pa_cons (pe_cmpR (op_notInD hu5) (pv 5) (pv 3) (by rfl)) pa_nil))) pa_nil))))))
            (pss_one (ps_ret (pv 3)))), ?_⟩
    refine ⟨Nat.zero_le _, fun D hD => ?_⟩
    have nD := S.ne_new hD
    refine ⟨_, rfl, n, rfl, by omega, by omega, for_range (lo := 0) (n := n) (fun i σ H' => ∃ x4 x5 ks, σ = [some (.ref st), some (.ref p), some (.int n), some (.ref D), x4, x5] ∧ ks.length ≤ i ∧ (∀ k ∈ ks, LkOn zs 3 k) ∧ ks.Nodup ∧ LksL H' D ks ∧ But st l H H' ∧ ∃ c', Strm H' st l c' ∧ c' ≤ c + 6 * i)
      ⟨none, none, [], rfl, Nat.zero_le _, by simp, List.nodup_nil, ⟨[], upd_same, rfl, fun i v k h => by cases h⟩, But.same (same_mk hD), c, S.up (same_mk hD), by omega⟩ ?_ ?_⟩
    · rintro i _ H1 hi ⟨x4, x5, ks, rfl, hkl, hks, nd, ⟨ws, hw, hwl, hwa⟩, B1, c1, S1, hc1⟩
      refine ⟨_, rfl, _, rfl, st, l, p, c1, zs, rfl, S1, by omega, L.but B1, z0, z1, nm, fun t k' H2 c2 ok' ht0 ht B2 S2 hc2 => ?_⟩
      have hw2 := B2 _ _ hw nD.1 nD.2
      have hwa2 : ∀ (i : Nat) (v : V) (k : Lk), ws[i]? = some v → ks[i]? = some k → ∃ t, v = .ref t ∧ H2 t = some (.tup (lkV k)) := fun i v k hv hk => by
        obtain ⟨t, e, h⟩ := hwa i v k hv hk
        obtain ⟨ns, a, m, ⟨h1, h2⟩, _⟩ := S1.ex
        exact ⟨t, e, B2 _ _ h (ne_of h h1 (by intro z; cases z)) (ne_of h h2 (by intro z; cases z))⟩
      have kw : ∀ k ∈ ks, LkW k := fun k hk => lkOn_w nm (by decide) (hks k hk)
      refine ⟨_, rfl, .inl ⟨rfl, _, SqL.of hw2⟩, _, rfl, by show 1 ≤ sizeLine; decide, fun q hq => ?_⟩
      have sq := same_mk (o := .lst [.ref t]) hq
      have hw3 := sq _ _ hw2
      refine ⟨_, rfl, _, rfl, lkD k', ks.map lkD, lk_dp (sq _ _ ht), .lst (SqL.of hw3) (dp_lks hwl fun i v k hv hk => ?_), lkD_shaped (lkOn_w nm (by decide) ok'), shaped_lks ks kw, .inr ⟨_, rfl, q, _, [.ref t], rfl, rfl, upd_same, ?_⟩⟩
      · obtain ⟨t', e, h⟩ := hwa2 i v k hv hk
        exact ⟨t', e, sq _ _ h⟩
      have eb : (!(ks.map lkD).any fun z => PyData.eqv z (lkD k')) = decide (k' ∉ ks) := by
        have e1 : ((ks.map lkD).any fun z => PyData.eqv z (lkD k')) = decide (k' ∈ ks) := by
          rw [List.any_map, Bool.eq_iff_iff, List.any_eq_true, decide_eq_true_iff]
          constructor
          · rintro ⟨x, hx, e⟩
            have e2 := eqv_lk (kw x hx) (lkOn_w nm (by decide) ok')
            rw [show PyData.eqv (lkD x) (lkD k') = true from e] at e2
            obtain rfl := of_decide_eq_true e2.symm
            exact hx
          · intro hx
            exact ⟨k', hx, (eqv_lk (kw k' hx) (kw k' hx)).trans (decide_eq_true rfl)⟩
        rw [e1, decide_not]
      generalize (!(ks.map lkD).any fun z => PyData.eqv z (lkD k')) = b at eb ⊢
      refine ⟨by cases b <;> decide, by cases b <;> decide, by cases b <;> first | exact Nat.zero_le _ | exact (show 1 ≤ sizeLine by decide), fun r hr' => ?_⟩
      have sr := same_mk (o := .lst (List.replicate (if b = true then 1 else 0 : Int).toNat [V.ref t]).flatten) hr'
      have hw4 := sr _ _ hw3
      have nq := S2.ne_new hq
      have S3 := S2.up sq
      have nr := S3.ne_new hr'
      have Dr : D ≠ r := ne_of_none hw3 hr'
      have HD : H D = none := hD
      have wl : ws.length ≤ 100 := by omega
      refine ⟨D, r, ws, _, rfl, rfl, hw4, upd_same, ?_, _, _, if b = true then ks ++ [k'] else ks, rfl, ?_, ?_, ?_, ⟨ws ++ (List.replicate (if b = true then 1 else 0 : Int).toNat [V.ref t]).flatten, upd_same, ?_, ?_⟩, ?_, c2, ?_, by omega⟩
      · cases b
        · exact Nat.le_trans (show ws.length + 0 ≤ 101 by omega) (by decide)
        · exact Nat.le_trans (show ws.length + 1 ≤ 101 by omega) (by decide)
      · cases b
        · exact Nat.le_succ_of_le hkl
        · show (ks ++ [k']).length ≤ i + 1
          rw [List.length_append]
          exact Nat.succ_le_succ hkl
      · intro x hx
        cases b
        · exact hks x hx
        · rcases List.mem_append.mp hx with e | e
          · exact hks x e
          · rw [List.mem_singleton.mp e]
            exact ok'
      · cases b
        · exact nd
        · have no := of_decide_eq_true eb.symm
          exact List.nodup_append.mpr ⟨nd, List.nodup_cons.mpr ⟨List.not_mem_nil, List.nodup_nil⟩, fun x hx y hy e => no (by rw [List.mem_singleton.mp hy] at e; rw [← e]; exact hx)⟩
      · cases b
        · show (ws ++ []).length = ks.length
          rw [List.append_nil, hwl]
        · show (ws ++ [V.ref t]).length = (ks ++ [k']).length
          rw [List.length_append, List.length_append, hwl]
          rfl
      · have up : ∀ t' k, H2 t' = some (.tup (lkV k)) → upd (upd (upd H2 q (.lst [.ref t])) r (.lst (List.replicate (if b = true then 1 else 0 : Int).toNat [V.ref t]).flatten)) D (.lst (ws ++ (List.replicate (if b = true then 1 else 0 : Int).toNat [V.ref t]).flatten)) t' = some (.tup (lkV k)) := fun t' k h => by
          rw [upd_ne (ne_of h hw2 (by intro z; cases z))]
          exact sr _ _ (sq _ _ h)
        intro m v k'' hv hk
        cases b
        · have hv : (ws ++ [])[m]? = some v := hv
          rw [List.append_nil] at hv
          obtain ⟨t', e, h⟩ := hwa2 m v k'' hv hk
          exact ⟨t', e, up _ _ h⟩
        · have hv : (ws ++ [V.ref t])[m]? = some v := hv
          have hk : (ks ++ [k'])[m]? = some k'' := hk
          by_cases e : m < ws.length
          · rw [List.getElem?_append_left e] at hv
            rw [List.getElem?_append_left (by omega)] at hk
            obtain ⟨t', e, h⟩ := hwa2 m v k'' hv hk
            exact ⟨t', e, up _ _ h⟩
          · rw [List.getElem?_append_right (by omega)] at hv hk
            have := (List.getElem?_eq_some_iff.mp hv).1
            rw [List.length_singleton] at this
            have e0 : m - ws.length = 0 := by omega
            have e1 : m - ks.length = 0 := by omega
            rw [e0] at hv
            rw [e1] at hk
            cases hv
            cases hk
            exact ⟨t, rfl, up _ _ ht⟩
      · intro x o hx n1 n2
        have xD : x ≠ D := fun z => by
          rw [z, HD] at hx
          cases hx
        rw [upd_ne xD]
        exact sr _ _ (sq _ _ (B2 _ _ (B1 _ _ hx n1 n2) n1 n2))
      · exact (S3.up sr).put nD
    · rintro _ H2 ⟨x4, x5, ks, rfl, hkl, hks, nd, hL, B2, c2, S2, hc2⟩
      exact ⟨_, rfl, k D ks H2 c2 (by omega) hks nd hD hL B2 S2 (by omega)⟩
end
end K3

set_option maxHeartbeats 3900000
namespace K3
open PySem PySem.Spec PyProof.Rows L2 TL
open C8 (pss_cut tCut pe_gc)
open CB
theorem lt_tri : ∀ a b : List Nat, a < b ∨ a = b ∨ b < a
  | [], [] => .inr (.inl rfl)
  | [], y :: b => .inl (List.nil_lt_cons y b)
  | x :: a, [] => .inr (.inr (List.nil_lt_cons x a))
  | x :: a, y :: b => by
    rcases Nat.lt_trichotomy x y with h | h | h
    · exact .inl (List.cons_lt_cons_iff.mpr (.inl h))
    · subst h
      rcases lt_tri a b with g | g | g
      · exact .inl (List.cons_lt_cons_iff.mpr (.inr ⟨rfl, g⟩))
      · exact .inr (.inl (by rw [g]))
      · exact .inr (.inr (List.cons_lt_cons_iff.mpr (.inr ⟨rfl, g⟩)))
    · exact .inr (.inr (List.cons_lt_cons_iff.mpr (.inl h)))
theorem lt_tr : ∀ a b c : List Nat, a < b → b < c → a < c := fun _ _ _ h g => List.lt_trans h g
theorem rising_pw : ∀ (p : Str) (l : List Str), risingS p l = true → (p :: l).Nodup → (p :: l).Pairwise (fun a b : Str => a.cps.toList < b.cps.toList)
  | p, [], _, _ => List.pairwise_singleton _ _
  | p, x :: r, h, nd => by
    have h : (!ltCps x.cps.toList p.cps.toList && risingS x r) = true := h
    rw [Bool.and_eq_true] at h
    obtain ⟨h1, h2⟩ := h
    rw [ltCps_eq] at h1
    have nd2 := List.nodup_cons.mp nd
    have ih := rising_pw x r h2 nd2.2
    have px : p.cps.toList < x.cps.toList := by
      rcases lt_tri p.cps.toList x.cps.toList with g | g | g
      · exact g
      · exact absurd (by rw [ext_tl g]; exact List.mem_cons_self) nd2.1
      · rw [decide_eq_true g] at h1
        cases h1
    refine List.pairwise_cons.mpr ⟨fun y hy => ?_, ih⟩
    rcases List.mem_cons.mp hy with e | e
    · rw [e]
      exact px
    · exact lt_tr _ _ _ px ((List.pairwise_cons.mp ih).1 y e)
theorem sorted_pw {l : List Str} (h : sortedS l = true) (nd : l.Nodup) : l.Pairwise (fun a b : Str => a.cps.toList < b.cps.toList) := by
  cases l with
  | nil => exact .nil
  | cons p r => exact rising_pw p r h nd
theorem cut_take (xs : List V) (d : Nat) : cutV xs none (some (d : Int)) = xs.take d := by
  show (xs.drop (HT.sIx xs.length 0 none)).take (HT.sIx xs.length xs.length (some (d : Int)) - HT.sIx xs.length 0 none) = xs.take d
  rw [HT.sIx_none, HT.sIx_nat, List.drop_zero, Nat.sub_zero]
  by_cases h : d ≤ xs.length
  · rw [Nat.min_eq_left h]
  · rw [Nat.min_eq_right (by omega), List.take_of_length_le (Nat.le_refl _), List.take_of_length_le (by omega)]
section
variable {P : Program} {w : World} {K : PySem.W.Frag} {mg : Str → Option Value} {base : Heap} {fD fP fPa fFr fMx fTe fLo : Addr} {fdD fdP fdPa fdFr fdMx fdTe fdLo : FuncData}
end
end K3

set_option maxHeartbeats 3900000
namespace K3
open PySem PySem.Spec PyProof.Rows L2 TL
open C8 (pss_cut tCut pe_gc)
open CB
abbrev sMust : Stmt := top 72
def TxtOf : Lk × An → List Str → Prop
  | (.rd _, .no), _ => False
  | (.rd q, _), p => p = q
  | (.ls q, .es l), p => ∃ n, (n, false) ∈ l ∧ p = q ++ [n]
  | _, _ => False
def DirOf : Lk × An → List Str → Prop
  | (.ls q, .es l), p => p = q ∨ ∃ n, (n, true) ∈ l ∧ p = q ++ [n]
  | _, _ => False
def TM (ss : List (Lk × An)) (fi : List (List Str)) (p : List Str) : Prop := p ∈ fi ∨ ∃ s ∈ ss, TxtOf s p
def D0M (ss : List (Lk × An)) (fo : List (List Str)) (p : List Str) : Prop := p = [] ∨ p ∈ fo ∨ ∃ s ∈ ss, DirOf s p
def DM (ss : List (Lk × An)) (fi fo : List (List Str)) (p : List Str) : Prop := D0M ss fo p ∨ (p ≠ [] ∧ ∃ r, (TM ss fi r ∨ D0M ss fo r) ∧ ben r p = true)
def pV (p : List Str) : V := .str (js p)
def pkey (p : List Str) : L2.Key := Sum.inr (js p)
def KA (kvs : List (L2.Key × V)) (B : Nat) (T : List Str → Prop) : Prop := (∀ kv ∈ kvs, ∃ p, kv.1 = pkey p ∧ Nms p ∧ p.length ≤ B) ∧ ∀ p, Nms p → ((valV kvs (pkey p)).isSome = true ↔ T p)
def DA (xs : List (List Str)) (B : Nat) (D : List Str → Prop) : Prop := (∀ p ∈ xs, Nms p ∧ p.length ≤ B) ∧ ∀ p, p ∈ xs ↔ D p
theorem pkey_inj {p q : List Str} (hp : Nms p) (hq : Nms q) : pkey p = pkey q ↔ p = q := ⟨fun e => js_inj hp hq (Sum.inr.inj e), fun e => by rw [e]⟩
theorem KA.iff {kvs : List (L2.Key × V)} {B : Nat} {T T' : List Str → Prop} (h : KA kvs B T) (e : ∀ p, Nms p → (T p ↔ T' p)) : KA kvs B T' := ⟨h.1, fun p hp => (h.2 p hp).trans (e p hp)⟩
theorem KA.put {kvs : List (L2.Key × V)} {B : Nat} {T : List Str → Prop} (h : KA kvs B T) {p : List Str} (hp : Nms p) (hl : p.length ≤ B) (v : V) : KA (putK kvs (pkey p) v) B (fun x => T x ∨ x = p) := by
  refine ⟨fun kv hkv => ?_, fun x hx => ?_⟩
  · unfold putK at hkv
    by_cases a : (kvs.any fun kv => decide (kv.1 = pkey p)) = true
    · rw [if_pos a] at hkv
      obtain ⟨kv', h1, rfl⟩ := List.mem_map.mp hkv
      by_cases e : kv'.1 = pkey p
      · rw [if_pos e]
        exact h.1 kv' h1
      · rw [if_neg e]
        exact h.1 kv' h1
    · rw [if_neg a] at hkv
      rcases List.mem_append.mp hkv with g | g
      · exact h.1 kv g
      · rw [List.mem_singleton.mp g]
        exact ⟨p, rfl, hp, hl⟩
  · rw [valV_put]
    by_cases e : x = p
    · subst e
      rw [if_pos rfl]
      exact ⟨fun _ => .inr rfl, fun _ => rfl⟩
    · rw [if_neg fun z => e ((pkey_inj hx hp).mp z), h.2 x hx]
      exact ⟨.inl, fun z => z.resolve_right e⟩
theorem KA.keys : ∀ {kvs : List (L2.Key × V)} {B : Nat}, (∀ kv ∈ kvs, ∃ p, kv.1 = pkey p ∧ Nms p ∧ p.length ≤ B) → ∃ tp : List (List Str), (kvs.map fun kv => kV kv.1) = tp.map pV ∧ tp.length = kvs.length ∧ (∀ p ∈ tp, Nms p ∧ p.length ≤ B) ∧ ∀ p, p ∈ tp → (valV kvs (pkey p)).isSome = true
  | [], _, _ => ⟨[], rfl, rfl, by simp, by simp⟩
  | kv :: r, B, h => by
    obtain ⟨tp, h1, h2, h3, h4⟩ := KA.keys (kvs := r) (B := B) fun x hx => h x (List.mem_cons_of_mem _ hx)
    obtain ⟨p, e, hp, hl⟩ := h kv List.mem_cons_self
    refine ⟨p :: tp, ?_, by rw [List.length_cons, List.length_cons, h2], ?_, ?_⟩
    · rw [List.map_cons, List.map_cons, h1, e]
      rfl
    · intro x hx
      rcases List.mem_cons.mp hx with g | g
      · rw [g]
        exact ⟨hp, hl⟩
      · exact h3 x g
    · intro x hx
      by_cases q : kv.1 = pkey x
      · rw [valV_pos q]
        rfl
      · rw [valV_neg q]
        rcases List.mem_cons.mp hx with g | g
        · exact absurd (by rw [e, g]) q
        · exact h4 x g
theorem KA.has : ∀ {kvs : List (L2.Key × V)} {tp : List (List Str)} {p : List Str}, (kvs.map fun kv => kV kv.1) = tp.map pV → (valV kvs (pkey p)).isSome = true → (∀ x ∈ tp, Nms x) → Nms p → p ∈ tp
  | [], _, _, _, h, _, _ => by cases h
  | kv :: r, [], _, e, _, _, _ => by cases e
  | kv :: r, x :: tp, p, e, h, n, hp => by
    simp only [List.map_cons, List.cons.injEq] at e
    by_cases q : kv.1 = pkey p
    · rw [q] at e
      have e1 : V.str (js p) = V.str (js x) := e.1
      rw [js_inj hp (n x List.mem_cons_self) (V.str.inj e1)]
      exact List.mem_cons_self
    · rw [valV_neg q] at h
      exact List.mem_cons_of_mem _ (KA.has e.2 h (fun y hy => n y (List.mem_cons_of_mem _ hy)) hp)
theorem DA.iff {xs : List (List Str)} {B : Nat} {D D' : List Str → Prop} (h : DA xs B D) (e : ∀ p, D p ↔ D' p) : DA xs B D' := ⟨h.1, fun p => (h.2 p).trans (e p)⟩
theorem DA.app {xs ys : List (List Str)} {B : Nat} {D : List Str → Prop} (h : DA xs B D) (hy : ∀ p ∈ ys, Nms p ∧ p.length ≤ B) : DA (xs ++ ys) B (fun x => D x ∨ x ∈ ys) :=
  ⟨fun p hp => (List.mem_append.mp hp).elim (h.1 p) (hy p), fun p => by rw [List.mem_append, h.2 p]⟩
def MS (H H' : Hp) (d e : Addr) (T D : List Str → Prop) (n : Nat) : Prop := Same H H' ∧ ∃ (kvs : List (L2.Key × V)) (dp : List (List Str)), H' d = some (.dK kvs) ∧ KA kvs 60 T ∧ kvs.length ≤ n ∧ H' e = some (.lst (dp.map pV)) ∧ DA dp 60 D ∧ dp.length ≤ n
theorem MS.iff {H H' : Hp} {d e : Addr} {T T' D D' : List Str → Prop} {n m : Nat} (h : MS H H' d e T D n) (t : ∀ p, Nms p → (T p ↔ T' p)) (g : ∀ p, D p ↔ D' p) (hn : n ≤ m) : MS H H' d e T' D' m := by
  obtain ⟨s, kvs, dp, h1, h2, h3, h4, h5, h6⟩ := h
  exact ⟨s, kvs, dp, h1, h2.iff t, by omega, h4, h5.iff g, by omega⟩
theorem MS.up {H H' H'' : Hp} {d e : Addr} {T D : List Str → Prop} {n : Nat} (h : MS H H' d e T D n) (s : Same H' H'') : MS H H'' d e T D n := by
  obtain ⟨s0, kvs, dp, h1, h2, h3, h4, h5, h6⟩ := h
  exact ⟨s0.trans s, kvs, dp, s _ _ h1, h2, h3, s _ _ h4, h5, h6⟩
def Sz (s : Lk × An) : Prop := (match s.1 with | .rd p => p.length ≤ 40 | .ls p => p.length ≤ 40 | _ => True) ∧ (match s.2 with | .es l => l.length ≤ 40 | _ => True)
def spMust : Sp := fun vs H Q _ => ∃ (a b c : Addr) (ss : List (Lk × An)) (fi fo : List (List Str)), vs = [.ref a, .ref b, .ref c] ∧ SisL H a ss ∧ (∀ s ∈ ss, SiOk' s ∧ Sz s) ∧ ss.length ≤ 20 ∧ H b = some (.lst (fi.map pV)) ∧ (∀ p ∈ fi, Nms p ∧ p.length ≤ 60) ∧ fi.length ≤ 100 ∧ H c = some (.lst (fo.map pV)) ∧ (∀ p ∈ fo, Nms p ∧ p.length ≤ 60) ∧ fo.length ≤ 100 ∧
  ∀ (t d e : Addr) (kvs : List (L2.Key × V)) (dp : List (List Str)) (H' : Hp), Same H H' → H d = none → H e = none → H' t = some (.tup [.ref d, .ref e]) → H' d = some (.dK kvs) → KA kvs 60 (TM ss fi) → kvs.length ≤ 150000 → H' e = some (.lst (dp.map pV)) → DA dp 60 (DM ss fi fo) → dp.length ≤ 150000 → Q (.ref t) H'
section
variable {P : Program} {w : World} {K : PySem.W.Frag} {mg : Str → Option Value} {base : Heap}
theorem scMu : FnScope ["_law_sights", "_law_files_here", "_law_folders", "_law_texts", "_law_dirs", "_law_path_here", "_law_look_here", "_law_answer", "_law_entry", "_law_parts", "_law_k"] ["_law_sights", "_law_files_here", "_law_folders"] (defScope sMust) := ⟨rfl, rfl, rfl, by decide +kernel, rfl, by decide +kernel, by decide +kernel⟩
theorem ok_must {f : Addr} {fd : FuncData} (F : Fun K "_law_must" "_law_must" sMust f fd) (T : TB mg) : FnOk P w K mg base CX0 1 f fd ["_law_sights", "_law_files_here", "_law_folders"] spMust := by
  refine F.ok scMu (fun vs H Q E h => ?_) (fun cdv A outer s H vs Q E hr h => ?_)
  · obtain ⟨a, b, c, ss, fi, fo, rfl, _⟩ := h
    rfl
  · have hu := hr.units
    have hu1 : (A.deeper (envOfC "_law_must" (defScope sMust) s.heap.objs.size f cdv)).units + 1 < cLine := by omega
    obtain ⟨a, b, c, ss, fi, fo, rfl, ⟨vs, ha, hal, hav⟩, hok, hss, hb, hfi, hfil, hc, hfo, hfol, fin⟩ := h
    refine ⟨_, pss_cons (ps_par (i := 3) (j := 4) (by rfl) scMu.nd rfl rfl (by decide) rfl rfl (pa_cons pe_dnewK (pa_cons (pe_lst (pa_cons pe_str pa_nil)) pa_nil)) (by rfl))
            (pss_cons (ps_for PassesOwn.never rfl (pi_list (pv 1)) (pg_name (i := 5) scMu.nd rfl (Or.inl rfl)) (pss_one (ps_dput hu1 (pv 3) (pv 5) pe_non rfl)))
            (pss_cons (ps_for PassesOwn.never rfl (pi_list (pv 0)) (pg_tup rfl (pgs_cons (pg_name (i := 6) scMu.nd rfl (Or.inl rfl)) (pgs_cons (pg_name (i := 7) scMu.nd rfl (Or.inl rfl)) pgs_nil))) (pss_cut (ps_if (PW.pt (pw_and (pt_cmpR op_eq (pe_ix ix_tup (pv 6) pe_int (fun _ _ => rfl)) pe_str (nomark _)) (pw_and1 (pt_cmp (pc_notN (pv 7)))))) (pss_one (ps_dput hu1 (pv 3) (pe_ix ix_tup (pv 6) pe_int (fun _ _ => rfl)) (pv 7) rfl)) (pss_nil))
            (pss_one (ps_if (PW.pt (pw_and (pt_cmpR op_eq (pe_ix ix_tup (pv 6) pe_int (fun _ _ => rfl)) pe_str (nomark _)) (pw_and1 (pt_cmp (pc_notN (pv 7)))))) (pss_cons (ps_expr (pe_bm PySem.F.plainAttrs_list PySem.F.slot_list_append PySem.F.type_list_append mt_append (pv 4) (pa_cons (pe_ix ix_tup (pv 6) pe_int (fun _ _ => rfl)) pa_nil)))
            (pss_one (ps_for PassesOwn.never rfl (pi_tup (pv 7)) (pg_name (i := 8) scMu.nd rfl (Or.inl rfl)) (pss_cons (ps_set (i := 5) scMu.nd rfl (Or.inl rfl) (pe_op op_add_str (pe_op op_add_str (pe_ix ix_tup (pv 6) pe_int (fun _ _ => rfl)) (pe_op op_mulS pe_str (pe_callTy call_int1 (by rfl) T.int (by decide +kernel) (pa_cons (pe_cmpR op_ne (pe_ix ix_tup (pv 6) pe_int (fun _ _ => rfl)) pe_str (nomark _)) pa_nil)))) (pe_bm PySem.F.plainAttrs_str PySem.F.slot_str_strip PySem.F.type_str_strip mt_stripChars (pv 8) (pa_cons pe_str pa_nil))))
            (pss_one (ps_if (pt_cmpR op_eq (pe_slice sl_str (pv 8) (po_some (pe_un un_neg pe_int)) po_none) pe_str (nomark _)) (pss_one (ps_expr (pe_bm PySem.F.plainAttrs_list PySem.F.slot_list_append PySem.F.type_list_append mt_append (pv 4) (pa_cons (pv 5) pa_nil)))) (pss_one (ps_expr (pe_dsetd (pv 3) (pv 5) pe_non ⟨rfl, rfl, rfl, rfl⟩))))))))) (pss_nil)))))
            (pss_cons (ps_for PassesOwn.never rfl (pi_list (pe_op op_cat (pe_op op_cat (pe_callTy (call_list_dK rfl) (by rfl) T.list (by decide +kernel) (pa_cons (pv 3) pa_nil)) (pv 4)) (pe_callTy call_list_of (by rfl) T.list (by decide +kernel) (pa_cons (pv 2) pa_nil)))) (pg_name (i := 5) scMu.nd rfl (Or.inl rfl)) (pss_cons (ps_set (i := 9) scMu.nd rfl (Or.inr rfl) (pe_bm PySem.F.plainAttrs_str PySem.F.slot_str_split PySem.F.type_str_split mt_split (pv 5) (pa_cons pe_str pa_nil)))
            (pss_one (ps_expr (pe_bm PySem.F.plainAttrs_list PySem.F.slot_list_extend PySem.F.type_list_extend mt_extend (pv 4) (pa_cons (pe_lc (own := [("_law_k", 10)]) (g := gName 10) (tt := tYes) rfl scMu.nd (pi_range2 rfl T.range (pa_cons pe_int (pa_cons (pe_callB call_len_seq (by rfl) T.len PySem.boot_len (pa_cons (pv 9) pa_nil)) pa_nil))) (blkOk_by (own := [("_law_k", 10)]) (N := ["_law_sights", "_law_files_here", "_law_folders", "_law_texts", "_law_dirs", "_law_path_here", "_law_look_here", "_law_answer", "_law_entry", "_law_parts", "_law_k"]) (sc := defScope sMust) (by decide +kernel)) (fun _ _ _ _ _ => (pg_name (i := 10) scMu.nd rfl (Or.inl rfl))) (fun _ _ _ _ _ => pts_nil) (fun _ _ _ _ _ => (by exact (pe_joinK (K0 := K) rfl pe_str (pe_slice (sl_listK (K0 := K) rfl) (pv 9) po_none (po_some (pv 10))))))) pa_nil))))))
            (pss_one (ps_ret (pe_tup (pa_cons (pv 3) (pa_cons (pe_op op_cat (pv 4) (pe_callTy call_list_of (by rfl) T.list (by decide +kernel) (pa_cons (pv 2) pa_nil))) pa_nil)))))))), ?_⟩
    refine fun d hd => ⟨by show 1 ≤ sizeLine; decide, fun e he => ⟨_, _, rfl, ?_⟩⟩
    have sd := same_mk (o := .dK []) hd
    have heH : H e = none := sd.free he
    have de : d ≠ e := ne_of_none upd_same he
    have nd : ∀ {x : Addr} {o : HO}, H x = some o → x ≠ d ∧ x ≠ e := fun {x o} hx => ⟨ne_of_none hx hd, ne_of_none hx heH⟩
    have m0 : MS H (upd (upd H d (.dK [])) e (.lst [.str ""])) d e (fun _ => False) (fun x => x = []) 1 := by
      refine ⟨sd.trans (same_mk he), [], [[]], by rw [upd_ne de]; exact upd_same, ⟨by simp, fun p _ => ⟨fun z => (nomatch z), False.elim⟩⟩, by decide, upd_same, ⟨fun p hp => ?_, fun p => by simp⟩, by decide⟩
      rw [List.mem_singleton.mp hp]
      exact ⟨by simp [Nms], by decide⟩
    -- stores
    have put : ∀ (H' : Hp) (T D : List Str → Prop) (n : Nat) (p : List Str) (v : V), MS H H' d e T D n → n ≤ 1000 → Nms p → p.length ≤ 60 → ∃ kvs, H' d = some (.dK kvs) ∧ kvs.length < sizeLine ∧ KA kvs 60 T ∧ MS H (upd H' d (.dK (putK kvs (pkey p) v))) d e (fun x => T x ∨ x = p) D (n + 1) := by
      rintro H' T D n p v ⟨s0, kvs, dp, h1, h2, h3, h4, h5, h6⟩ hn hp hl
      refine ⟨kvs, h1, Nat.lt_of_lt_of_le (show kvs.length < 1001 by omega) (by decide), h2, same_ch s0 hd, putK kvs (pkey p) v, dp, upd_same, h2.put hp hl v, ?_, by rw [upd_ne de.symm]; exact h4, h5, by omega⟩
      have := length_putK kvs (pkey p) v
      omega
    have app : ∀ (H' : Hp) (T D : List Str → Prop) (n : Nat) (ps : List (List Str)), MS H H' d e T D n → (∀ p ∈ ps, Nms p ∧ p.length ≤ 60) → ∃ dp : List (List Str), H' e = some (.lst (dp.map pV)) ∧ dp.length ≤ n ∧ MS H (upd H' e (.lst (dp.map pV ++ ps.map pV))) d e T (fun x => D x ∨ x ∈ ps) (n + ps.length) := by
      rintro H' T D n ps ⟨s0, kvs, dp, h1, h2, h3, h4, h5, h6⟩ hps
      refine ⟨dp, h4, h6, same_ch s0 heH, kvs, dp ++ ps, by rw [upd_ne de]; exact h1, h2, by omega, by rw [upd_same, List.map_append], h5.app hps, by rw [List.length_append]; omega⟩
    -- for path_here in files
    refine ⟨_, rfl, b, rfl, ⟨_, SqL.of ((sd.trans (same_mk he)) _ _ hb)⟩, for_it (walk_list (K := K) (a := b) (xs := fi.map pV)) (fun i σ H' => ∃ x5, σ = [some (.ref a), some (.ref b), some (.ref c), some (.ref d), some (.ref e), x5, none, none, none, none, none] ∧ MS H H' d e (fun x => x ∈ fi.take i) (fun x => x = []) (1 + i))
      ⟨none, rfl, m0.iff (fun p _ => by simp) (fun p => Iff.rfl) (by omega)⟩ (fun i σ H' _ q => by obtain ⟨_, _, m⟩ := q; exact SqL.of (m.1 _ _ hb)) ?_ ?_⟩
    · rintro i x _ _ H1 hi ⟨x5, rfl, m1⟩ ⟨rfl, hx⟩
      rw [List.length_map] at hi
      rw [List.getElem?_map, List.getElem?_eq_getElem hi] at hx
      cases hx
      obtain ⟨hp, hl⟩ := hfi fi[i] (List.getElem_mem hi)
      obtain ⟨kvs, k1, k2, _, m2⟩ := put H1 _ _ _ fi[i] .non m1 (by omega) hp hl
      refine ⟨_, rfl, _, rfl, d, _, rfl, DPut.k (k := pkey fi[i]) k1 k2, _, rfl, m2.iff (fun p _ => ?_) (fun p => Iff.rfl) (by omega)⟩
      rw [List.take_succ, List.getElem?_eq_getElem hi, List.mem_append]
      simp
    rintro _ H1 ⟨x5, rfl, m1⟩
    rw [List.length_map, List.take_length] at m1
    -- for look_here, answer in sights
    have a1 := m1.1 _ _ ha
    refine ⟨_, rfl, a, rfl, ⟨_, SqL.of a1⟩, for_it (walk_list (K := K) (a := a) (xs := vs)) (fun i σ H' => ∃ x5 x6 x7 x8, σ = [some (.ref a), some (.ref b), some (.ref c), some (.ref d), some (.ref e), x5, x6, x7, x8, none, none] ∧ MS H H' d e (fun x => x ∈ fi ∨ ∃ s ∈ ss.take i, TxtOf s x) (fun x => x = [] ∨ ∃ s ∈ ss.take i, DirOf s x) (101 + 42 * i))
      ⟨x5, none, none, none, rfl, m1.iff (fun p _ => by simp) (fun p => by simp) (by omega)⟩ (fun i σ H' _ q => by obtain ⟨_, _, _, _, _, m⟩ := q; exact SqL.of (m.1 _ _ ha)) ?_ ?_⟩
    · rintro i x _ _ H2 hi ⟨x5, x6, x7, x8, rfl, m2⟩ ⟨rfl, hx⟩
      have his : i < ss.length := by omega
      have hsi : ss[i]? = some ss[i] := List.getElem?_eq_getElem his
      obtain ⟨ok, sz⟩ := hok ss[i] (List.getElem_mem his)
      have S0 := hav i x ss[i] hx hsi
      have tk : ss.take (i + 1) = ss.take i ++ [ss[i]] := by
        rw [List.take_succ, hsi]
        rfl
      generalize ss[i] = s0 at *
      obtain ⟨k, an⟩ := s0
      obtain ⟨t, u, va, rfl, h1, h2, h3⟩ := S0
      have h1' := m2.1 _ _ h1
      have h2' := m2.1 _ _ h2
      have eT : ∀ x, (x ∈ fi ∨ ∃ s ∈ ss.take (i + 1), TxtOf s x) ↔ ((x ∈ fi ∨ ∃ s ∈ ss.take i, TxtOf s x) ∨ TxtOf (k, an) x) := fun x => by
        rw [tk]
        simp only [List.mem_append, List.mem_singleton]
        constructor
        · rintro (g | ⟨s, g | g, q⟩)
          · exact .inl (.inl g)
          · exact .inl (.inr ⟨s, g, q⟩)
          · rw [g] at q
            exact .inr q
        · rintro ((g | ⟨s, g, q⟩) | q)
          · exact .inl g
          · exact .inr ⟨s, .inl g, q⟩
          · exact .inr ⟨_, .inr rfl, q⟩
      have eD : ∀ x, (x = [] ∨ ∃ s ∈ ss.take (i + 1), DirOf s x) ↔ ((x = [] ∨ ∃ s ∈ ss.take i, DirOf s x) ∨ DirOf (k, an) x) := fun x => by
        rw [tk]
        simp only [List.mem_append, List.mem_singleton]
        constructor
        · rintro (g | ⟨s, g | g, q⟩)
          · exact .inl (.inl g)
          · exact .inl (.inr ⟨s, g, q⟩)
          · rw [g] at q
            exact .inr q
        · rintro ((g | ⟨s, g, q⟩) | q)
          · exact .inl g
          · exact .inr ⟨s, .inl g, q⟩
          · exact .inr ⟨_, .inr rfl, q⟩
      generalize hT : (fun x => x ∈ fi ∨ ∃ s ∈ ss.take i, TxtOf s x) = T0 at m2
      generalize hD0 : (fun x => x = [] ∨ ∃ s ∈ ss.take i, DirOf s x) = D0 at m2
      have eT : ∀ x, (x ∈ fi ∨ ∃ s ∈ ss.take (i + 1), TxtOf s x) ↔ (T0 x ∨ TxtOf (k, an) x) := fun x => by
        rw [← hT]
        exact eT x
      have eD : ∀ x, (x = [] ∨ ∃ s ∈ ss.take (i + 1), DirOf s x) ↔ (D0 x ∨ DirOf (k, an) x) := fun x => by
        rw [← hD0]
        exact eD x
      refine ⟨t, _, rfl, SqT.of h1', rfl, _, _, rfl, _, _, rfl, rfl, ?_⟩
      refine ⟨fun σ H' => σ = [some (.ref a), some (.ref b), some (.ref c), some (.ref d), some (.ref e), x5, some (.ref u), some va, x8, none, none] ∧ MS H H' d e (fun x => T0 x ∨ (∃ q, k = .rd q ∧ TxtOf (k, an) x)) D0 (101 + 42 * i + 1), ?_, ?_⟩
      · -- the first if
        cases k with
        | rd q =>
          refine ⟨_, rfl, u, _, 0, _, rfl, rfl, SqT.of h2', atI_nat (j := 0) rfl, rfl, _, rfl, iteY rfl ?_⟩
          cases an with
          | no =>
            cases (show va = .non from h3)
            exact ⟨_, rfl, _, rfl, iteF ⟨rfl, m2.iff (fun p _ => ⟨.inl, fun z => z.elim id fun ⟨_, _, g⟩ => g.elim⟩) (fun p => Iff.rfl) (by omega)⟩⟩
          | tx z =>
            cases (show va = .str z from h3)
            obtain ⟨kvs, k1, k2, _, m3⟩ := put H2 _ _ _ q (.str z) m2 (by omega) ok.1.1.2.1 (Nat.le_trans sz.1 (by decide))
            exact ⟨_, rfl, _, rfl, iteT ⟨_, rfl, _, rfl, _, rfl, u, _, 1, _, rfl, rfl, SqT.of h2', atI_nat (j := 1) rfl, d, _, rfl, DPut.k (k := pkey q) k1 k2, rfl, m3.iff (fun p _ => ⟨fun z => z.elim .inl fun g => .inr ⟨q, rfl, g⟩, fun z => z.elim .inl fun ⟨_, _, g⟩ => .inr g⟩) (fun p => Iff.rfl) (by omega)⟩⟩
          | es l => exact ok.1.2.elim
        | ls q => exact ⟨_, rfl, u, _, 0, _, rfl, rfl, SqT.of h2', atI_nat (j := 0) rfl, rfl, _, rfl, iteN (by decide +kernel) ⟨rfl, m2.iff (fun p _ => ⟨.inl, fun z => z.elim id fun ⟨_, g, _⟩ => nomatch g⟩) (fun p => Iff.rfl) (by omega)⟩⟩
        | se n => exact ⟨_, rfl, u, _, 0, _, rfl, rfl, SqT.of h2', atI_nat (j := 0) rfl, rfl, _, rfl, iteN (by decide +kernel) ⟨rfl, m2.iff (fun p _ => ⟨.inl, fun z => z.elim id fun ⟨_, g, _⟩ => nomatch g⟩) (fun p => Iff.rfl) (by omega)⟩⟩
        | tl => exact ⟨_, rfl, u, _, 0, _, rfl, rfl, SqT.of h2', atI_nat (j := 0) rfl, rfl, _, rfl, iteN (by decide +kernel) ⟨rfl, m2.iff (fun p _ => ⟨.inl, fun z => z.elim id fun ⟨_, g, _⟩ => nomatch g⟩) (fun p => Iff.rfl) (by omega)⟩⟩
      rintro _ H3 ⟨rfl, m3⟩
      have h2'' := m3.1 _ _ h2
      -- the second if: none of a folder
      have skip : (∀ q l, ¬ ((k, an) : Lk × An) = (.ls q, .es l)) → MS H H3 d e (fun x => x ∈ fi ∨ ∃ s ∈ ss.take (i + 1), TxtOf s x) (fun x => x = [] ∨ ∃ s ∈ ss.take (i + 1), DirOf s x) (101 + 42 * (i + 1)) := fun g => by
        refine m3.iff (fun p _ => ?_) (fun p => ?_) (by omega)
        · rw [eT p]
          refine ⟨fun z => z.elim .inl fun ⟨_, _, q⟩ => .inr q, fun z => z.elim .inl fun q => ?_⟩
          cases k with
          | rd q' => exact .inr ⟨q', rfl, q⟩
          | ls q' =>
            cases an with
            | es l => exact absurd rfl (g q' l)
            | no => exact q.elim
            | tx z => exact q.elim
          | se n => cases an <;> exact q.elim
          | tl => cases an <;> exact q.elim
        · rw [eD p]
          refine ⟨.inl, fun z => z.elim id fun q => ?_⟩
          cases k with
          | ls q' =>
            cases an with
            | es l => exact absurd rfl (g q' l)
            | no => exact q.elim
            | tx z => exact q.elim
          | rd q' => cases an <;> exact q.elim
          | se n => cases an <;> exact q.elim
          | tl => cases an <;> exact q.elim
      cases k with
      | rd q => exact ⟨_, rfl, u, _, 0, _, rfl, rfl, SqT.of h2'', atI_nat (j := 0) rfl, rfl, _, rfl, iteN (by decide +kernel) ⟨_, _, _, _, rfl, skip fun _ _ z => nomatch z⟩⟩
      | se n => exact ⟨_, rfl, u, _, 0, _, rfl, rfl, SqT.of h2'', atI_nat (j := 0) rfl, rfl, _, rfl, iteN (by decide +kernel) ⟨_, _, _, _, rfl, skip fun _ _ z => nomatch z⟩⟩
      | tl => exact ⟨_, rfl, u, _, 0, _, rfl, rfl, SqT.of h2'', atI_nat (j := 0) rfl, rfl, _, rfl, iteN (by decide +kernel) ⟨_, _, _, _, rfl, skip fun _ _ z => nomatch z⟩⟩
      | ls q =>
        refine ⟨_, rfl, u, _, 0, _, rfl, rfl, SqT.of h2'', atI_nat (j := 0) rfl, rfl, _, rfl, iteY rfl ?_⟩
        cases an with
        | no =>
          cases (show va = .non from h3)
          exact ⟨_, rfl, _, rfl, iteF ⟨_, _, _, _, rfl, skip fun _ _ z => nomatch z⟩⟩
        | tx z => exact ok.1.2.elim
        | es l =>
          obtain ⟨g, rfl, hg⟩ := h3
          have nq : Nms q := ok.1.1.1
          have lq : q.length ≤ 40 := sz.1
          have ll : l.length ≤ 40 := sz.2
          obtain ⟨dp, k1, k2, m4⟩ := app H3 _ _ _ [q] m3 (fun p hp => by rw [List.mem_singleton.mp hp]; exact ⟨nq, Nat.le_trans lq (by decide)⟩)
          refine ⟨_, rfl, _, rfl, iteT ⟨_, rfl, .inl ⟨rfl, _, SqL.of k1⟩, _, rfl, u, _, 1, _, rfl, rfl, SqT.of h2'', atI_nat (j := 1) rfl, e, _, _, rfl, rfl, k1, by rw [List.length_map]; exact Nat.lt_of_lt_of_le (show dp.length < 1000 by omega) (by decide), ?_⟩⟩
          have hg4 := m4.1 _ _ hg
          refine ⟨_, rfl, g, rfl, ⟨_, SqT.of hg4⟩, for_it (walk_tup (K := K) (a := g) (xs := l.map entV)) (fun j σ H' => ∃ x5 x8, σ = [some (.ref a), some (.ref b), some (.ref c), some (.ref d), some (.ref e), x5, some (.ref u), some (.ref g), x8, none, none] ∧ MS H H' d e (fun x => T0 x ∨ ∃ n, (n, false) ∈ l.take j ∧ x = q ++ [n]) (fun x => D0 x ∨ x = q ∨ ∃ n, (n, true) ∈ l.take j ∧ x = q ++ [n]) (101 + 42 * i + 2 + j))
            ⟨x5, x8, rfl, m4.iff (fun p _ => by simp) (fun p => by simp) (by show 101 + 42 * i + 1 + 1 ≤ _; omega)⟩ (fun j σ H' _ q => by obtain ⟨_, _, _, m⟩ := q; exact SqT.of (m.1 _ _ hg)) ?_ ?_⟩
          · rintro j x _ _ H5 hj ⟨y5, y8, rfl, m5⟩ ⟨rfl, hx5⟩
            rw [List.length_map] at hj
            rw [List.getElem?_map, List.getElem?_eq_getElem hj] at hx5
            cases hx5
            have hn : IsNm l[j].1 := ok.1.2.1.1 l[j] (List.getElem_mem hj)
            have tkl : l.take (j + 1) = l.take j ++ [l[j]] := by
              rw [List.take_succ, List.getElem?_eq_getElem hj]
              rfl
            generalize l[j] = ej at *
            obtain ⟨n, bb⟩ := ej
            have hn : IsNm n := hn
            have shq := js_sh nq (Nat.le_trans lq (by decide))
            have shq' : (js q).length ≤ 1000 := shq
            have n8 := hn.2.1
            have elen : (ent n bb).length ≤ 9 := by
              rw [len_tl, tl_ent, List.length_append, ← len_tl]
              cases bb <;> simp <;> omega
            have key : js q ++ (if (!decide (V.str (js q) = V.str "")) = true then ("/" : Str) else "") ++ n = js (q ++ [n]) := by
              by_cases eq : q = []
              · subst eq
                rw [List.nil_append, js_one]
                exact ext_tl (by rw [tl_append, tl_append]; rfl)
              · rw [decide_eq_false (show ¬ V.str (js q) = V.str "" from fun z => js_ne nq eq (V.str.inj z)), js_app eq (by simp), js_one]
                rfl
            have nqn : Nms (q ++ [n]) := nq.app fun y hy => by
              rw [List.mem_singleton.mp hy]
              exact hn
            have lqn : (q ++ [n]).length ≤ 60 := by
              rw [List.length_append]
              show q.length + 1 ≤ 60
              omega
            have h25 := m5.1 _ _ h2
            have len1 : (js q).length + (if (!decide (V.str (js q) = V.str "")) = true then ("/" : Str) else "").length ≤ sizeLine := by
              refine Nat.le_trans (show _ ≤ 1001 from ?_) (by decide)
              have : (if (!decide (V.str (js q) = V.str "")) = true then ("/" : Str) else "").length ≤ 1 := by
                split <;> decide
              omega
            have len2 : (js q ++ (if (!decide (V.str (js q) = V.str "")) = true then ("/" : Str) else "")).length + n.length ≤ sizeLine := by
              refine Nat.le_trans (show _ ≤ 1009 from ?_) (by decide)
              have e1 : (js q ++ (if (!decide (V.str (js q) = V.str "")) = true then ("/" : Str) else "")).length = (js q).length + (if (!decide (V.str (js q) = V.str "")) = true then ("/" : Str) else "").length := by
                rw [len_tl, tl_append, List.length_append, ← len_tl, ← len_tl]
              have : (if (!decide (V.str (js q) = V.str "")) = true then ("/" : Str) else "").length ≤ 1 := by
                split <;> decide
              omega
            refine ⟨_, rfl, u, _, 1, _, rfl, rfl, SqT.of h25, atI_nat (j := 1) rfl, _, rfl, u, _, 1, _, rfl, rfl, SqT.of h25, atI_nat (j := 1) rfl, rfl, .inr ⟨_, rfl, "/", _, rfl, rfl, by decide, _, _, rfl, rfl, len1, _, rfl, rfl, ent n bb, "/", rfl, rfl, Nat.le_trans elen (by decide), ?_⟩⟩
            rw [strip_ent hn]
            refine ⟨_, _, rfl, rfl, len2, ?_⟩
            rw [key]
            refine ⟨_, rfl, _, rfl, _, rfl, ent n bb, rfl, Nat.le_trans elen (by decide), rfl, _, rfl, ?_⟩
            have ce : decide (V.str (cutS (ent n bb) (some (-1)) none) = V.str "/") = bb := by
              rw [← cut_ent hn bb, decide_eq_decide, cut_ent hn bb]
              exact ⟨fun z => V.str.inj z, fun z => congrArg V.str z⟩
            rw [ce]
            cases bb with
            | true =>
              obtain ⟨dp5, k15, k25, m6⟩ := app H5 _ _ _ [q ++ [n]] m5 (fun p hp => by rw [List.mem_singleton.mp hp]; exact ⟨nqn, lqn⟩)
              refine iteT ⟨_, rfl, .inl ⟨rfl, _, SqL.of k15⟩, _, rfl, e, _, _, rfl, rfl, k15, by rw [List.length_map]; exact Nat.lt_of_lt_of_le (show dp5.length < 1000 by omega) (by decide), _, _, rfl, m6.iff (fun p _ => ?_) (fun p => ?_) (by show _ + 1 ≤ _; omega)⟩
              · rw [tkl]
                simp
              · rw [tkl]
                simp [or_assoc, and_or_left, or_and_right, exists_or]
            | false =>
              obtain ⟨kvs5, k15, k25, k35, m6⟩ := put H5 _ _ _ (q ++ [n]) .non m5 (by omega) nqn lqn
              refine iteF ⟨_, rfl, d, rfl, .inl ⟨_, .inl k15⟩, _, rfl, kvs5, pkey (q ++ [n]), k15, rfl, k25, fun v hv => ⟨_, _, rfl, ?_⟩, fun _ => ⟨_, _, rfl, m6.iff (fun p _ => ?_) (fun p => ?_) (by omega)⟩⟩
              · refine m5.iff (fun p hp => ?_) (fun p => ?_) (by omega)
                · have h0 := (k35.2 (q ++ [n]) nqn).mp (by rw [hv]; rfl)
                  rw [tkl]
                  simp only [List.mem_append, List.mem_singleton]
                  constructor
                  · rintro (g | ⟨y, g, z⟩)
                    · exact .inl g
                    · exact .inr ⟨y, .inl g, z⟩
                  · rintro (g | ⟨y, g | g, z⟩)
                    · exact .inl g
                    · exact .inr ⟨y, g, z⟩
                    · rw [z, show y = n from congrArg Prod.fst g]
                      exact h0
                · rw [tkl]
                  simp
              · rw [tkl]
                simp [or_assoc, and_or_left, or_and_right, exists_or]
              · rw [tkl]
                simp
          · rintro _ H5 ⟨y5, y8, rfl, m5⟩
            rw [List.length_map, List.take_length] at m5
            exact ⟨_, _, _, _, rfl, m5.iff (fun p _ => (eT p).symm) (fun p => (eD p).symm) (by omega)⟩
    rintro _ H2 ⟨x5, x6, x7, x8, rfl, m2⟩
    rw [hal, List.take_length] at m2
    -- for path_here in list(texts) + dirs + list(folders)
    obtain ⟨s2, kvs, dp, k1, k2, k3, k4, k5, k6⟩ := m2
    have c2 := s2 _ _ hc
    obtain ⟨tp, e1, e2, e3, e4⟩ := KA.keys k2.1
    have tpT : ∀ p, Nms p → (p ∈ tp ↔ TM ss fi p) := fun p hp => ⟨fun h => (k2.2 p hp).mp (e4 p h), fun h => KA.has e1 ((k2.2 p hp).mpr h) (fun x hx => (e3 x hx).1) hp⟩
    refine ⟨_, rfl, d, kvs, rfl, k1, fun l1 hl1 => ?_⟩
    rw [e1]
    have z1 := same_mk (o := .lst (tp.map pV)) hl1
    refine ⟨_, rfl, l1, e, _, _, rfl, rfl, upd_same, z1 _ _ k4, ?_, fun l2 hl2 => ?_⟩
    · rw [List.length_map, List.length_map]
      exact Nat.le_trans (show tp.length + dp.length ≤ 2000 by omega) (by decide)
    have z2 := same_mk (o := .lst (tp.map pV ++ dp.map pV)) hl2
    have z12 := z1.trans z2
    refine ⟨_, rfl, c, _, rfl, .inl (SqL.of (z12 _ _ c2)), fun l3 hl3 => ?_⟩
    have z3 := same_mk (o := .lst (fo.map pV)) hl3
    refine ⟨l2, l3, _, _, rfl, rfl, z3 _ _ upd_same, upd_same, ?_, fun l4 hl4 => ?_⟩
    · rw [List.length_append, List.length_map, List.length_map, List.length_map]
      exact Nat.le_trans (show tp.length + dp.length + fo.length ≤ 3000 by omega) (by decide)
    have z4 := same_mk (o := .lst (tp.map pV ++ dp.map pV ++ fo.map pV)) hl4
    have z14 := (z12.trans z3).trans z4
    have e4' := z14 _ _ k4
    have l4e : l4 ≠ e := by
      rintro rfl
      rw [(z12.trans z3) _ _ k4] at hl4
      cases hl4
    have l4d : l4 ≠ d := by
      rintro rfl
      rw [(z12.trans z3) _ _ k1] at hl4
      cases hl4
    generalize hall : tp ++ dp ++ fo = all
    have eall : tp.map pV ++ dp.map pV ++ fo.map pV = all.map pV := by rw [← hall, List.map_append, List.map_append]
    rw [eall] at z14 e4' ⊢
    have alln : ∀ p ∈ all, Nms p ∧ p.length ≤ 60 := fun p hp => by
      rw [← hall] at hp
      rcases List.mem_append.mp hp with g | g
      · rcases List.mem_append.mp g with g | g
        · exact e3 p g
        · exact k5.1 p g
      · exact hfo p g
    have alll : all.length ≤ 2000 := by
      rw [← hall, List.length_append, List.length_append]
      omega
    have m3 : MS H (upd (upd (upd (upd H2 l1 (.lst (tp.map pV))) l2 (.lst (tp.map pV ++ dp.map pV))) l3 (.lst (fo.map pV))) l4 (.lst (all.map pV))) d e (TM ss fi) (fun x => x = [] ∨ ∃ s ∈ ss, DirOf s x) 941 :=
      MS.up ⟨s2, kvs, dp, k1, k2, by omega, k4, k5, by omega⟩ z14
    have h4 : (upd (upd (upd (upd H2 l1 (.lst (tp.map pV))) l2 (.lst (tp.map pV ++ dp.map pV))) l3 (.lst (fo.map pV))) l4 (.lst (all.map pV))) l4 = some (.lst (all.map pV)) := upd_same
    have l4H : H l4 = none := by
      cases q : H l4 with
      | none => rfl
      | some o =>
        rw [((s2.trans z12).trans z3) _ _ q] at hl4
        cases hl4
    generalize hH3 : (upd (upd (upd (upd H2 l1 (.lst (tp.map pV))) l2 (.lst (tp.map pV ++ dp.map pV))) l3 (.lst (fo.map pV))) l4 (.lst (all.map pV))) = H3 at *
    refine ⟨l4, rfl, ⟨_, SqL.of h4⟩, for_it (walk_list (K := K) (a := l4) (xs := all.map pV)) (fun i σ H' => ∃ x5 x6 x7 x8 x9, σ = [some (.ref a), some (.ref b), some (.ref c), some (.ref d), some (.ref e), x5, x6, x7, x8, x9, none] ∧ H' l4 = some (.lst (all.map pV)) ∧ MS H H' d e (TM ss fi) (fun x => (x = [] ∨ ∃ s ∈ ss, DirOf s x) ∨ ∃ r ∈ all.take i, x ≠ [] ∧ ben r x = true) (941 + 60 * i))
      ⟨x5, x6, x7, x8, none, rfl, h4, m3.iff (fun p _ => Iff.rfl) (fun p => by simp) (by omega)⟩ (fun i σ H' _ q => by obtain ⟨_, _, _, _, _, _, m, _⟩ := q; exact SqL.of m) ?_ ?_⟩
    · rintro i x _ _ H4 hi ⟨x5, x6, x7, x8, x9, rfl, h44, m4⟩ ⟨rfl, hx⟩
      rw [List.length_map] at hi
      have hai : all[i]? = some all[i] := List.getElem?_eq_getElem hi
      rw [List.getElem?_map, hai] at hx
      cases hx
      obtain ⟨hp, hl⟩ := alln all[i] (List.getElem_mem hi)
      have tk : all.take (i + 1) = all.take i ++ [all[i]] := by
        rw [List.take_succ, hai]
        rfl
      generalize all[i] = p at *
      obtain ⟨ys, sp, ylen, yta⟩ : ∃ ys : List Str, Txt.split (js p) "/" = ys ∧ ys.length = (if p = [] then 1 else p.length) ∧ ∀ k, k + 1 < ys.length → ys.take (k + 1) = p.take (k + 1) := by
        by_cases h : p = []
        · subst h
          exact ⟨[""], by decide +kernel, rfl, fun k hk => absurd hk (by simp)⟩
        · exact ⟨p, split_js hp h, by rw [if_neg h], fun _ _ => rfl⟩
      have shp := js_sh hp (Nat.le_trans hl (by decide))
      refine ⟨_, rfl, rfl, js p, "/", rfl, rfl, rfl, ?_, fun q hq => ?_⟩
      · have := shp
        unfold Sh at this
        exact Nat.le_trans (show (js p).length + 2 ≤ 1002 by omega) (by decide)
      rw [sp]
      have zq := same_mk (o := .lst (ys.map V.str)) hq
      have m5 := m4.up zq
      have h45 := zq _ _ h44
      have hq5 : (upd H4 q (.lst (ys.map V.str))) q = some (.lst (ys.map V.str)) := upd_same
      generalize (upd H4 q (.lst (ys.map V.str))) = H5 at *
      have ylen1 : 1 ≤ ys.length ∧ ys.length ≤ 60 := by
        rw [ylen]
        split
        · decide
        · rename_i h
          have := List.length_pos_iff.mpr h
          omega
      obtain ⟨s5, kvs5, dp5, q1, q2, q3, q4, q5, q6⟩ := m5
      refine ⟨_, rfl, .inl ⟨rfl, _, SqL.of q4⟩, _, rfl, q, _, rfl, .inl (SqL.of hq5), 1, _, rfl, ⟨by decide, by decide, by omega, by rw [List.length_map]; omega⟩, fun D hD => ?_⟩
      rw [List.length_map]
      have nn : ((ys.length : Int) - 1).toNat = ys.length - 1 := by omega
      rw [nn]
      have Dd : ∀ {x o}, H5 x = some o → x ≠ D := fun h => ne_of_none h hD
      refine lcW (walk_range (lo := 1) (n := ys.length - 1)) ((List.range (ys.length - 1)).map fun k => pV (p.take (k + 1))) (by rw [List.length_map, List.length_range]) (by omega) hD (fun _ _ => trivial) ?_ ?_
      · rintro k x y H6 _ hy s6 ⟨rfl, rfl⟩ Q1 k1'
        have hk := (List.getElem?_eq_some_iff.mp hy).1
        rw [List.length_map, List.length_range] at hk
        rw [List.getElem?_map, List.getElem?_range hk] at hy
        cases hy
        refine ⟨⟨_, rfl⟩, _, rfl, _, rfl, 1 + (k : Int), rfl, q, _, rfl, SqL.of (s6 _ _ hq5), fun r hr' => ?_⟩
        rw [show (1 : Int) + (k : Int) = ((k + 1 : Nat) : Int) by omega, cut_take, ← List.map_take, yta k (by omega)]
        have lt : (p.take (k + 1)).length ≤ 60 := by
          rw [List.length_take]
          omega
        have nt : Nms (p.take (k + 1)) := fun y hy => hp y (List.mem_of_mem_take hy)
        refine ⟨_, r, p.take (k + 1), rfl, rfl, .inl (SqL.of upd_same), ?_, k1' _ (same_mk hr')⟩
        have := names_len fun y q => (nt y q).2.1
        have e : (("/" : Str).length) = 1 := by decide
        rw [e]
        omega
      · intro H6 s6 hD6
        have q46 := s6 _ _ q4
        have news : ∀ x ∈ (List.range (ys.length - 1)).map (fun k => p.take (k + 1)), Nms x ∧ x.length ≤ 60 := fun x hx => by
          obtain ⟨k, _, rfl⟩ := List.mem_map.mp hx
          refine ⟨fun y hy => hp y (List.mem_of_mem_take hy), ?_⟩
          rw [List.length_take]
          omega
        have em : ((List.range (ys.length - 1)).map fun k => pV (p.take (k + 1))) = ((List.range (ys.length - 1)).map fun k => p.take (k + 1)).map pV := by
          rw [List.map_map]
          rfl
        rw [em] at hD6
        obtain ⟨dp6, q47, q48, m6⟩ := app H6 _ _ _ _ (MS.up ⟨s5, kvs5, dp5, q1, q2, q3, q4, q5, q6⟩ s6) news
        rw [q47] at q46
        have edp : dp6.map pV = dp5.map pV := HO.lst.inj (Option.some.inj q46)
        have eD : e ≠ D := ne_of_none q4 hD
        have l4e' : H6 l4 = some (.lst (all.map pV)) := s6 _ _ h45
        refine ⟨e, D, _, _, rfl, rfl, q47, hD6, ?_, _, _, _, _, _, rfl, ?_, m6.iff (fun p _ => Iff.rfl) (fun x => ?_) ?_⟩
        · rw [List.length_map, List.length_map, List.length_map, List.length_range]
          exact Nat.le_trans (show dp6.length + (ys.length - 1) ≤ 150000 by omega) (by decide)
        · rw [upd_ne l4e]
          exact l4e'
        · rw [tk]
          have key : x ∈ (List.range (ys.length - 1)).map (fun k => p.take (k + 1)) ↔ (x ≠ [] ∧ ben p x = true) := by
            rw [List.mem_map, ben_iff]
            constructor
            · rintro ⟨k, hk, rfl⟩
              rw [List.mem_range, ylen] at hk
              have hpn : p ≠ [] := by
                rintro rfl
                simp at hk
              rw [if_neg hpn] at hk
              refine ⟨?_, p.drop (k + 1), ?_, (List.take_append_drop _ _).symm⟩
              · intro z
                have := congrArg List.length z
                rw [List.length_take, Nat.min_eq_left (show k + 1 ≤ p.length by omega)] at this
                exact absurd this (by simp)
              · intro z
                have := List.drop_eq_nil_iff.mp z
                omega
            · rintro ⟨hx, r, hr', rfl⟩
              have := List.length_pos_iff.mpr hx
              have := List.length_pos_iff.mpr hr'
              refine ⟨x.length - 1, ?_, ?_⟩
              · rw [List.mem_range, ylen, if_neg (by simp [hx]), List.length_append]
                omega
              · rw [show x.length - 1 + 1 = x.length by omega, List.take_left']
                rfl
          rw [key]
          simp only [List.mem_append, List.mem_singleton]
          constructor
          · rintro ((g | ⟨r, g, z⟩) | z)
            · exact .inl g
            · exact .inr ⟨r, .inl g, z⟩
            · exact .inr ⟨p, .inr rfl, z⟩
          · rintro (g | ⟨r, g | g, z⟩)
            · exact .inl (.inl g)
            · exact .inl (.inr ⟨r, g, z⟩)
            · rw [g] at z
              exact .inr z
        · rw [List.length_map, List.length_range]
          omega
    rintro _ H4 ⟨x5, x6, x7, x8, x9, rfl, _, s4, kvs4, dp4, q1, q2, q3, q4, q5, q6⟩
    rw [List.length_map, List.take_length] at q5
    rw [List.length_map] at q3 q6
    refine ⟨_, rfl, _, rfl, _, rfl, c, _, rfl, .inl (SqL.of (s4 _ _ hc)), fun r1 hr1 => ?_⟩
    have y1 := same_mk (o := .lst (fo.map pV)) hr1
    refine ⟨e, r1, _, _, rfl, rfl, y1 _ _ q4, upd_same, ?_, fun r2 hr2 => ?_⟩
    · rw [List.length_map, List.length_map]
      exact Nat.le_trans (show dp4.length + fo.length ≤ 150000 by omega) (by decide)
    have y2 := same_mk (o := .lst (dp4.map pV ++ fo.map pV)) hr2
    have y12 := (s4.trans y1).trans y2
    refine ⟨by show 2 ≤ sizeLine; decide, fun t ht => ?_⟩
    have y3 := same_mk (o := .tup [.ref d, .ref r2]) ht
    refine fin t d r2 kvs4 (dp4 ++ fo) _ (y12.trans y3) hd ((s4.trans y1).free hr2) upd_same (y3 _ _ (y2 _ _ (y1 _ _ q1))) q2 ?_ ?_ ?_ ?_
    · omega
    · rw [List.map_append]
      exact y3 _ _ upd_same
    · refine (q5.app hfo).iff fun x => ?_
      have tn : ∀ r, TM ss fi r → Nms r := fun r hr' => by
        rcases hr' with g | ⟨s, g, z⟩
        · exact (hfi r g).1
        · obtain ⟨⟨k, an⟩, rfl⟩ : ∃ s', s' = s := ⟨s, rfl⟩
          have ok := (hok _ g).1
          cases k with
          | rd q =>
            cases an with
            | no => exact z.elim
            | tx _ =>
              rw [show r = q from z]
              exact ok.1.1.2.1
            | es l => exact ok.1.2.elim
          | ls q =>
            cases an with
            | no => exact z.elim
            | tx _ => exact z.elim
            | es l =>
              obtain ⟨n, hn, rfl⟩ := z
              exact ok.1.1.1.app fun y hy => by
                rw [List.mem_singleton.mp hy]
                exact ok.1.2.1.1 _ hn
          | se n => cases an <;> exact z.elim
          | tl => cases an <;> exact z.elim
      have ma : ∀ r, r ∈ all ↔ (TM ss fi r ∨ (r = [] ∨ ∃ s ∈ ss, DirOf s r) ∨ r ∈ fo) := fun r => by
        rw [← hall, List.mem_append, List.mem_append, k5.2 r]
        constructor
        · rintro ((g | g) | g)
          · exact .inl ((tpT r (e3 r g).1).mp g)
          · exact .inr (.inl g)
          · exact .inr (.inr g)
        · rintro (g | g | g)
          · exact .inl (.inl ((tpT r (tn r g)).mpr g))
          · exact .inl (.inr g)
          · exact .inr g
      unfold DM D0M
      constructor
      · rintro ((g | ⟨r, hr', hx, hb⟩) | g)
        · exact .inl (g.elim .inl fun z => .inr (.inr z))
        · refine .inr ⟨hx, r, ?_, hb⟩
          rcases (ma r).mp hr' with z | z | z
          · exact .inl z
          · exact .inr (z.elim .inl fun z => .inr (.inr z))
          · exact .inr (.inr (.inl z))
        · exact .inl (.inr (.inl g))
      · rintro (g | ⟨hx, r, hr', hb⟩)
        · rcases g with g | g | g
          · exact .inl (.inl (.inl g))
          · exact .inr g
          · exact .inl (.inl (.inr g))
        · refine .inl (.inr ⟨r, (ma r).mpr ?_, hx, hb⟩)
          rcases hr' with z | z | z | z
          · exact .inl z
          · exact .inr (.inl (.inl z))
          · exact .inr (.inr z)
          · exact .inr (.inl (.inr z))
    · rw [List.length_append]
      omega
end
end K3

set_option maxHeartbeats 3900000
namespace K3
open PySem PySem.Spec PyProof.Rows L2 TL
open C8 (pss_cut tCut pe_gc)
open CB
abbrev sEntries : Stmt := top 73
abbrev sFits : Stmt := top 74
def EntOk (l : List (Str × Bool)) (f : List Str) (D : List Str → Prop) (p : List Str) : Prop := ∀ n r, p = f ++ n :: r → ((r ≠ [] ∨ D p) → (n, true) ∈ l) ∧ (¬ (r ≠ [] ∨ D p) → (n, false) ∈ l)
def FitE (l : List (Str × Bool)) (f : List Str) (T D : List Str → Prop) : Prop := ∀ p, Nms p → (T p ∨ D p) → EntOk l f D p
def FitS (T D : List Str → Prop) : Lk × An → Prop
  | (.rd q, .no) => ¬ T q
  | (.ls q, .no) => ¬ D q
  | (.ls q, .es l) => FitE l q T D
  | _ => True
def FitsP (ss : List (Lk × An)) (fi fo : List (List Str)) : Prop := (∀ s ∈ ss, ∀ s' ∈ ss, s.1 = s'.1 → s.2 = s'.2) ∧ (∀ p, Nms p → TM ss fi p → ¬ DM ss fi fo p) ∧ ∀ s ∈ ss, FitS (TM ss fi) (DM ss fi fo) s
def spEntries : Sp := fun vs H Q _ => ∃ (g d e : Addr) (l : List (Str × Bool)) (f : List Str) (kvs : List (L2.Key × V)) (dp : List (List Str)) (T D : List Str → Prop), vs = [.ref g, .str (js f), .ref d, .ref e] ∧ H g = some (.tup (l.map entV)) ∧ (∀ x ∈ l, IsNm x.1) ∧ Nms f ∧ f.length ≤ 60 ∧ H d = some (.dK kvs) ∧ KA kvs 60 T ∧ kvs.length ≤ 150000 ∧ H e = some (.lst (dp.map pV)) ∧ DA dp 60 D ∧ dp.length ≤ 150000 ∧
  ∀ b H', Same H H' → (b = true ↔ FitE l f T D) → Q (.bl b) H'
def spFits : Sp := fun vs H Q _ => ∃ (a b c : Addr) (ss : List (Lk × An)) (fi fo : List (List Str)), vs = [.ref a, .ref b, .ref c] ∧ SisL H a ss ∧ (∀ s ∈ ss, SiOk' s ∧ Sz s) ∧ ss.length ≤ 20 ∧ H b = some (.lst (fi.map pV)) ∧ (∀ p ∈ fi, Nms p ∧ p.length ≤ 60) ∧ fi.length ≤ 100 ∧ H c = some (.lst (fo.map pV)) ∧ (∀ p ∈ fo, Nms p ∧ p.length ≤ 60) ∧ fo.length ≤ 100 ∧
  ∀ r H', Same H H' → (r = true ↔ FitsP ss fi fo) → Q (.bl r) H'
theorem in_paths {p : List Str} (hp : Nms p) : ∀ {xs : List (List Str)}, (∀ x ∈ xs, Nms x) → inV (.str (js p)) (xs.map pV) = decide (p ∈ xs) := fun {xs} h => by
  have e : xs.map pV = (xs.map js).map V.str := by
    rw [List.map_map]
    rfl
  rw [e, inV_strs, decide_eq_decide, List.mem_map]
  exact ⟨fun ⟨x, hx, q⟩ => by rw [← js_inj (h x hx) hp q]; exact hx, fun q => ⟨p, q, rfl⟩⟩
theorem flat_paths (xs : List (List Str)) : (xs.map pV).all flatV = true := by
  rw [List.all_map, List.all_eq_true]
  intro x _
  rfl
section
variable {P : Program} {w : World} {K : PySem.W.Frag} {mg : Str → Option Value} {base : Heap}
theorem scEf : FnScope ["_law_entries", "_law_folder", "_law_texts", "_law_dirs", "_law_path_here", "_law_rest", "_law_name"] ["_law_entries", "_law_folder", "_law_texts", "_law_dirs"] (defScope sEntries) := ⟨rfl, rfl, rfl, by decide +kernel, rfl, by decide +kernel, by decide +kernel⟩
theorem ok_entries {f fB : Addr} {fd fdB : FuncData} (F : Fun K "_law_entries_fit" "_law_entries_fit" sEntries f fd) (T : TB mg) (aBe : At K mg "_law_beneath" fB fdB ["_law_path_here", "_law_other"]) (GBe : FnOk P w K mg base CX0 1 fB fdB ["_law_path_here", "_law_other"] spBeneath) : FnOk P w K mg base CX0 2 f fd ["_law_entries", "_law_folder", "_law_texts", "_law_dirs"] spEntries := by
  refine F.ok scEf (fun vs H Q E h => ?_) (fun cdv A outer s H vs Q E hr h => ?_)
  · obtain ⟨g, d, e, l, f, kvs, dp, _, _, rfl, _⟩ := h
    rfl
  · obtain ⟨g, d, e, l, q, kvs, dp, T0, D0, rfl, hg, hl, hq, lq, hd, ka, kl, he, da, dl, fin⟩ := h
    refine ⟨_, pss_cons (ps_for PassesOwn.never rfl (pi_list (pe_op op_cat (pe_callTy (call_list_dK rfl) (by rfl) T.list (by decide +kernel) (pa_cons (pv 2) pa_nil)) (pv 3))) (pg_name (i := 4) scEf.nd rfl (Or.inl rfl)) (pss_one (ps_if (pt_val (pe_call GBe (hr.mono (by decide)) rfl aBe.m aBe.k aBe.b .nil pass0 (pa_cons (pv 4) (pa_cons (pv 1) pa_nil)))) (pss_cons (ps_set (i := 5) scEf.nd rfl (Or.inl rfl) (pe_slice sl_str (pv 4) (po_some (pe_op op_add (pe_callB call_len_str (by rfl) T.len PySem.boot_len (pa_cons (pv 1) pa_nil)) (pe_callTy call_int1 (by rfl) T.int (by decide +kernel) (pa_cons (pe_cmpR op_ne (pv 1) pe_str (nomark _)) pa_nil)))) po_none))
            (pss_cons (ps_set (i := 6) scEf.nd rfl (Or.inl rfl) (pe_ix ix_list (pe_bm PySem.F.plainAttrs_str PySem.F.slot_str_split PySem.F.type_str_split mt_split (pv 5) (pa_cons pe_str pa_nil)) pe_int (fun _ _ => rfl)))
            (pss_one (ps_if (pt_cmpR op_notIn_seq (pe_ifExp (PW.pt (pw_or (pt_cmpR op_ne (pv 5) (pv 6) (nomark _)) (pw_or1 (pt_cmpR op_in_seq (pv 4) (pv 3) (by rfl))))) (pe_op op_add_str (pv 6) pe_str) (pv 6)) (pv 0) (by rfl)) (pss_one (ps_ret pe_bl)) (pss_nil))))) (pss_nil))))
            (pss_one (ps_ret pe_bl)), ?_⟩
    obtain ⟨tp, e1, e2, e3, e4⟩ := KA.keys ka.1
    have tpT : ∀ p, Nms p → (p ∈ tp ↔ T0 p) := fun p hp => ⟨fun h => (ka.2 p hp).mp (e4 p h), fun h => KA.has e1 ((ka.2 p hp).mpr h) (fun x hx => (e3 x hx).1) hp⟩
    refine ⟨_, rfl, d, kvs, rfl, hd, fun l1 hl1 => ?_⟩
    rw [e1]
    have z1 := same_mk (o := .lst (tp.map pV)) hl1
    refine ⟨_, rfl, l1, e, _, _, rfl, rfl, upd_same, z1 _ _ he, ?_, fun l2 hl2 => ?_⟩
    · rw [List.length_map, List.length_map]
      exact Nat.le_trans (show tp.length + dp.length ≤ 300000 by omega) (by decide)
    have z2 := same_mk (o := .lst (tp.map pV ++ dp.map pV)) hl2
    have z12 := z1.trans z2
    have eall : tp.map pV ++ dp.map pV = (tp ++ dp).map pV := (List.map_append ..).symm
    rw [eall] at z12 ⊢
    have alln : ∀ p ∈ tp ++ dp, Nms p ∧ p.length ≤ 60 := fun p hp => (List.mem_append.mp hp).elim (e3 p) (da.1 p)
    have allm : ∀ p, Nms p → (p ∈ tp ++ dp ↔ (T0 p ∨ D0 p)) := fun p hp => by rw [List.mem_append, tpT p hp, da.2 p]
    generalize tp ++ dp = all at *
    have h2 : (upd (upd H l1 (.lst (tp.map pV))) l2 (.lst (all.map pV))) l2 = some (.lst (all.map pV)) := upd_same
    generalize (upd (upd H l1 (.lst (tp.map pV))) l2 (.lst (all.map pV))) = H2 at *
    refine ⟨l2, rfl, ⟨_, SqL.of h2⟩, for_it (walk_list (K := K) (a := l2) (xs := all.map pV)) (fun i σ H' => ∃ x4 x5 x6, σ = [some (.ref g), some (.str (js q)), some (.ref d), some (.ref e), x4, x5, x6] ∧ Same H2 H' ∧ ∀ p ∈ all.take i, EntOk l q D0 p)
      ⟨none, none, none, rfl, Same.refl _, by simp⟩ (fun i σ H' _ m => by obtain ⟨_, _, _, _, m, _⟩ := m; exact SqL.of (m _ _ h2)) ?_ ?_⟩
    · rintro i x _ _ H3 hi ⟨x4, x5, x6, rfl, s3, hp3⟩ ⟨rfl, hx⟩
      rw [List.length_map] at hi
      have hai : all[i]? = some all[i] := List.getElem?_eq_getElem hi
      rw [List.getElem?_map, hai] at hx
      cases hx
      have hmem := List.getElem_mem hi
      obtain ⟨hp, hpl⟩ := alln all[i] hmem
      have tk : all.take (i + 1) = all.take i ++ [all[i]] := by
        rw [List.take_succ, hai]
        rfl
      generalize all[i] = p at *
      have z3 := z12.trans s3
      have nxt : ∀ (H4 : Hp) (x5 x6 : Option V), Same H3 H4 → EntOk l q D0 p → ∃ y4 y5 y6, [some (.ref g), some (.str (js q)), some (.ref d), some (.ref e), some (pV p), x5, x6] = [some (.ref g), some (.str (js q)), some (.ref d), some (.ref e), y4, y5, y6] ∧ Same H2 H4 ∧ ∀ p ∈ all.take (i + 1), EntOk l q D0 p := fun H4 x5 x6 s4 ok => ⟨_, _, _, rfl, s3.trans s4, fun y hy => by
        rw [tk] at hy
        rcases List.mem_append.mp hy with g | g
        · exact hp3 y g
        · rw [List.mem_singleton.mp g]
          exact ok⟩
      refine ⟨_, rfl, _, rfl, p, q, rfl, hp, hq, Nat.le_trans lq (by decide), Nat.le_trans hpl (by decide), fun H4 s4 => ⟨_, rfl, ?_⟩⟩
      cases eb : ben p q with
      | false =>
        refine iteF (nxt H4 x5 x6 s4 fun n r e => ?_)
        rw [ben_iff.mpr ⟨n :: r, by simp, e⟩] at eb
        cases eb
      | true =>
        obtain ⟨r0, hr0, ep⟩ := ben_iff.mp eb
        match r0, hr0 with
        | n :: r, _ =>
          have hnr : Nms (n :: r) := by
            rw [ep] at hp
            exact hp.right
          have hn : IsNm n := hnr n List.mem_cons_self
          have shp := js_sh hp (Nat.le_trans hpl (by decide))
          have shq := js_sh hq (Nat.le_trans lq (by decide))
          have lnr : (n :: r).length ≤ 60 := by
            rw [ep, List.length_append] at hpl
            omega
          have shr := js_sh hnr (Nat.le_trans lnr (by decide))
          have rest : cutS (js p) (some (((js q).length : Int) + (if (!decide (V.str (js q) = V.str "")) = true then 1 else 0))) none = js (n :: r) := by
            have := rest_bg q (r := n :: r) (by simp)
            rw [← ep, bg_len] at this
            rw [← this]
            by_cases eq : q = []
            · subst eq
              rfl
            · rw [if_neg eq, decide_eq_false (show ¬ V.str (js q) = V.str "" from fun z => js_ne hq eq (V.str.inj z)), len_tl, tl_js]
              rfl
          refine iteT ⟨_, rfl, _, rfl, _, rfl, shq.line, _, rfl, rfl, .inr ⟨_, rfl, _, _, rfl, rfl, _, rfl, js p, rfl, shp.line, ?_⟩⟩
          rw [rest]
          refine ⟨_, rfl, rfl, js (n :: r), "/", rfl, rfl, rfl, ?_, fun u hu => ?_⟩
          · have := shr
            unfold Sh at this
            exact Nat.le_trans (show (js (n :: r)).length + 2 ≤ 1002 by omega) (by decide)
          rw [split_js hnr (by simp)]
          have zu := same_mk (o := .lst ((n :: r).map V.str)) hu
          refine ⟨u, _, 0, .str n, rfl, rfl, SqL.of upd_same, atI_nat (j := 0) rfl, ?_⟩
          have z5 := z3.trans (s4.trans zu)
          have hg5 := z5 _ _ hg
          have he5 := z5 _ _ he
          have s45 := s4.trans zu
          generalize (upd H4 u (.lst ((n :: r).map V.str))) = H5 at *
          have fe : (if false = true then !inV (pV p) (dp.map pV) else inV (pV p) (dp.map pV)) = decide (p ∈ dp) := in_paths hp fun x hx => (da.1 x hx).1
          have ne : decide (V.str (js (n :: r)) = V.str n) = decide (r = []) := by
            by_cases er : r = []
            · rw [er, js_one]
              simp
            · rw [decide_eq_false er, decide_eq_false]
              intro z
              have z2 := V.str.inj z
              have := nm_free hn
              rw [← z2, js_cons n er, tl_append, tl_append, tl_sl] at this
              exact this (by simp)
          have uniq : ∀ n' r', p = q ++ n' :: r' → n' = n ∧ r' = r := fun n' r' e => by
            rw [ep] at e
            have := List.append_cancel_left e
            cases this
            exact ⟨rfl, rfl⟩
          have n8 := hn.2.1
          have add : n.length + ("/" : Str).length ≤ sizeLine := Nat.le_trans (show n.length + 1 ≤ 9 by omega) (by decide)
          refine ⟨_, rfl, _, rfl, rfl, _, rfl, ?_⟩
          rw [ne]
          by_cases er : r = []
          · rw [decide_eq_true er]
            refine iteF ⟨_, rfl, _, rfl, e, _, rfl, .inl (SqL.of he5), rfl, flat_paths dp, ?_⟩
            rw [fe]
            by_cases ed : p ∈ dp
            · refine ⟨_, rfl, iteY ed ⟨_, rfl, _, _, rfl, rfl, add, ?_⟩⟩
              have sideT : r ≠ [] ∨ D0 p := .inr ((da.2 p).mp ed)
              refine ⟨_, rfl, g, _, rfl, .inr (SqT.of hg5), rfl, flat_ents l, ?_⟩
              rw [show (if true = true then !inV (.str (n ++ "/")) (l.map entV) else inV (.str (n ++ "/")) (l.map entV)) = !decide ((n, true) ∈ l) from congrArg (! ·) (in_ents hl hn true)]
              by_cases em : (n, true) ∈ l
              · rw [decide_eq_true em]
                refine ⟨_, rfl, iteF (nxt H5 _ _ s45 fun n' r' e => ?_)⟩
                obtain ⟨rfl, rfl⟩ := uniq n' r' e
                exact ⟨fun _ => em, fun z => absurd sideT z⟩
              · rw [decide_eq_false em]
                refine ⟨_, rfl, iteT (fin false H5 z5 ⟨fun z => (nomatch z), fun z => absurd ?_ em⟩)⟩
                exact (z p hp ((allm p hp).mp hmem) n r ep).1 sideT
            · refine ⟨_, rfl, iteN ed ⟨_, rfl, ?_⟩⟩
              have sideF : ¬ (r ≠ [] ∨ D0 p) := fun z => z.elim (fun z => z er) fun z => ed ((da.2 p).mpr z)
              refine ⟨_, rfl, g, _, rfl, .inr (SqT.of hg5), rfl, flat_ents l, ?_⟩
              rw [show (if true = true then !inV (.str (n)) (l.map entV) else inV (.str (n)) (l.map entV)) = !decide ((n, false) ∈ l) from congrArg (! ·) (in_ents hl hn false)]
              by_cases em : (n, false) ∈ l
              · rw [decide_eq_true em]
                refine ⟨_, rfl, iteF (nxt H5 _ _ s45 fun n' r' e => ?_)⟩
                obtain ⟨rfl, rfl⟩ := uniq n' r' e
                exact ⟨fun z => absurd z sideF, fun _ => em⟩
              · rw [decide_eq_false em]
                refine ⟨_, rfl, iteT (fin false H5 z5 ⟨fun z => (nomatch z), fun z => absurd ?_ em⟩)⟩
                exact (z p hp ((allm p hp).mp hmem) n r ep).2 sideF
          · rw [decide_eq_false er]
            refine iteT ⟨_, rfl, _, _, rfl, rfl, add, ?_⟩
            have sideT : r ≠ [] ∨ D0 p := .inl er
            refine ⟨_, rfl, g, _, rfl, .inr (SqT.of hg5), rfl, flat_ents l, ?_⟩
            rw [show (if true = true then !inV (.str (n ++ "/")) (l.map entV) else inV (.str (n ++ "/")) (l.map entV)) = !decide ((n, true) ∈ l) from congrArg (! ·) (in_ents hl hn true)]
            by_cases em : (n, true) ∈ l
            · rw [decide_eq_true em]
              refine ⟨_, rfl, iteF (nxt H5 _ _ s45 fun n' r' e => ?_)⟩
              obtain ⟨rfl, rfl⟩ := uniq n' r' e
              exact ⟨fun _ => em, fun z => absurd sideT z⟩
            · rw [decide_eq_false em]
              refine ⟨_, rfl, iteT (fin false H5 z5 ⟨fun z => (nomatch z), fun z => absurd ?_ em⟩)⟩
              exact (z p hp ((allm p hp).mp hmem) n r ep).1 sideT
    · rintro _ H3 ⟨x4, x5, x6, rfl, s3, hp3⟩
      rw [List.length_map, List.take_length] at hp3
      exact fin true H3 (z12.trans s3) ⟨fun _ p hp h => hp3 p ((allm p hp).mpr h), fun _ => rfl⟩
def lkey (k : Lk) : List L2.Key := (lkS k).map Sum.inr
theorem lkey_V (k : Lk) : (lkey k).map kV = lkV k := by
  rw [lkV_S]
  unfold lkey
  rw [List.map_map]
  rfl
theorem lkey_inj {k k' : Lk} (h : LkW k) (h' : LkW k') : lkey k = lkey k' ↔ k = k' := by
  refine ⟨fun e => lkS_inj h h' ?_, fun e => by rw [e]⟩
  unfold lkey at e
  have : ∀ {l m : List Str}, l.map (Sum.inr : Str → L2.Key) = m.map Sum.inr → l = m := by
    intro l
    induction l with
    | nil =>
      intro m h
      cases m with
      | nil => rfl
      | cons _ _ => cases h
    | cons x r ih =>
      intro m h
      cases m with
      | nil => cases h
      | cons y t =>
        simp only [List.map_cons, List.cons.injEq] at h
        rw [Sum.inr.inj h.1, ih h.2]
  exact this e
theorem anAt_inj {H : Hp} {v : V} {a a' : An} (h : AnAt H v a) (h' : AnAt H v a') (w : AnW a) (w' : AnW a') : a = a' := by
  cases a with
  | no =>
    cases (show v = .non from h)
    cases a' with
    | no => rfl
    | tx z => cases (show V.non = .str z from h')
    | es l =>
      obtain ⟨_, e, _⟩ := h'
      cases e
  | tx z =>
    cases (show v = .str z from h)
    cases a' with
    | no => cases (show V.str z = .non from h')
    | tx z' =>
      cases (show V.str z = .str z' from h')
      rfl
    | es l =>
      obtain ⟨_, e, _⟩ := h'
      cases e
  | es l =>
    obtain ⟨b, rfl, hb⟩ := h
    cases a' with
    | no => cases (show V.ref b = .non from h')
    | tx z' => cases (show V.ref b = .str z' from h')
    | es l' =>
      obtain ⟨b', e, hb'⟩ := h'
      cases e
      rw [hb] at hb'
      have e2 : l.map entV = l'.map entV := HO.tup.inj (Option.some.inj hb')
      have e3 : (l.map fun e => ent e.1 e.2) = l'.map fun e => ent e.1 e.2 := by
        have : ∀ {x y : List (Str × Bool)}, x.map entV = y.map entV → (x.map fun e => ent e.1 e.2) = y.map fun e => ent e.1 e.2 := by
          intro x
          induction x with
          | nil =>
            intro y h
            cases y with
            | nil => rfl
            | cons _ _ => cases h
          | cons a r ih =>
            intro y h
            cases y with
            | nil => cases h
            | cons c t =>
              simp only [List.map_cons, List.cons.injEq] at h ⊢
              exact ⟨V.str.inj h.1, ih h.2⟩
        exact this e2
      rw [ents_inj w.1 w'.1 e3]
theorem scFi : FnScope ["_law_sights", "_law_files_here", "_law_folders", "_law_known", "_law_look_here", "_law_answer", "_law_texts", "_law_dirs", "_law_path_here"] ["_law_sights", "_law_files_here", "_law_folders"] (defScope sFits) := ⟨rfl, rfl, rfl, by decide +kernel, rfl, by decide +kernel, by decide +kernel⟩
theorem ok_fits {f fM fE : Addr} {fd fdM fdE : FuncData} (F : Fun K "_law_fits" "_law_fits" sFits f fd) (T : TB mg) (aMu : At K mg "_law_must" fM fdM ["_law_sights", "_law_files_here", "_law_folders"]) (aEf : At K mg "_law_entries_fit" fE fdE ["_law_entries", "_law_folder", "_law_texts", "_law_dirs"])
    (GMu : FnOk P w K mg base CX0 1 fM fdM ["_law_sights", "_law_files_here", "_law_folders"] spMust) (GEf : FnOk P w K mg base CX0 2 fE fdE ["_law_entries", "_law_folder", "_law_texts", "_law_dirs"] spEntries) : FnOk P w K mg base CX0 3 f fd ["_law_sights", "_law_files_here", "_law_folders"] spFits := by
  refine F.ok scFi (fun vs H Q E h => ?_) (fun cdv A outer s H vs Q E hr h => ?_)
  · obtain ⟨a, b, c, ss, fi, fo, rfl, _⟩ := h
    rfl
  · have hu := hr.units
    have hu1 : (A.deeper (envOfC "_law_fits" (defScope sFits) s.heap.objs.size f cdv)).units + 1 < cLine := by omega
    obtain ⟨a, b, c, ss, fi, fo, rfl, hsis, hok, hss, hb, hfi, hfil, hc, hfo, hfol, fin⟩ := h
    have hsis0 := hsis
    obtain ⟨vs, ha, hal, hav⟩ := hsis
    refine ⟨_, pss_cons (ps_set (i := 3) scFi.nd rfl (Or.inl rfl) pe_dnewT)
            (pss_cons (ps_for PassesOwn.never rfl (pi_list (pv 0)) (pg_tup rfl (pgs_cons (pg_name (i := 4) scFi.nd rfl (Or.inl rfl)) (pgs_cons (pg_name (i := 5) scFi.nd rfl (Or.inl rfl)) pgs_nil))) (pss_one (ps_if (pt_cmpR (op_neD hu) (pe_bm PySem.F.plainAttrs_dict PySem.F.slot_dict_setdefault PySem.F.type_dict_setdefault (mt_setdT hu1) (pv 3) (pa_cons (pv 4) (pa_cons (pv 5) pa_nil))) (pv 5) (nomark _)) (pss_one (ps_ret pe_bl)) (pss_nil))))
            (pss_cons (ps_asg (pe_call GMu (hr.mono (by decide)) rfl aMu.m aMu.k aMu.b .nil pass0 (pa_cons (pv 0) (pa_cons (pv 1) (pa_cons (pv 2) pa_nil)))) (pg_tup rfl (pgs_cons (pg_name (i := 6) scFi.nd rfl (Or.inl rfl)) (pgs_cons (pg_name (i := 7) scFi.nd rfl (Or.inr rfl)) pgs_nil))))
            (pss_cons (ps_if (pt_val (pe_callB (cr_any rfl) (by rfl) T.any boot_any (pa_cons (pe_lock (pe_lc (own := [("_law_path_here", 8)]) (g := gName 8) (tt := tYes) rfl scFi.nd (pi_keys (pv 6)) (blkOk_by (own := [("_law_path_here", 8)]) (N := ["_law_sights", "_law_files_here", "_law_folders", "_law_known", "_law_look_here", "_law_answer", "_law_texts", "_law_dirs", "_law_path_here"]) (sc := defScope sFits) (by decide +kernel)) (fun _ _ _ _ _ => (pg_name (i := 8) scFi.nd rfl (Or.inl rfl))) (fun _ _ _ _ _ => pts_nil) (fun _ _ _ _ _ => (by exact (pe_cmpR (in_seqK (K0 := K) rfl) (pv 8) (pv 7) (by rfl)))))) pa_nil))) (pss_one (ps_ret pe_bl)) (pss_nil))
            (pss_cons (ps_for PassesOwn.never rfl (pi_list (pv 0)) (pg_tup rfl (pgs_cons (pg_name (i := 4) scFi.nd rfl (Or.inl rfl)) (pgs_cons (pg_name (i := 5) scFi.nd rfl (Or.inl rfl)) pgs_nil))) (pss_cons (ps_if (PW.pt (pw_and (pt_cmpR op_eq (pe_ix ix_tup (pv 4) pe_int (fun _ _ => rfl)) pe_str (nomark _)) (pw_and (pt_cmp (pc_isN (pv 5))) (pw_and1 (pt_cmp (pc_din hu1 (pe_ix ix_tup (pv 4) pe_int (fun _ _ => rfl)) (pv 6))))))) (pss_one (ps_ret pe_bl)) (pss_nil))
            (pss_cons (ps_if (PW.pt (pw_and (pt_cmpR op_eq (pe_ix ix_tup (pv 4) pe_int (fun _ _ => rfl)) pe_str (nomark _)) (pw_and (pt_cmp (pc_isN (pv 5))) (pw_and1 (pt_cmpR op_in_seq (pe_ix ix_tup (pv 4) pe_int (fun _ _ => rfl)) (pv 7) (by rfl)))))) (pss_one (ps_ret pe_bl)) (pss_nil))
            (pss_one (ps_if (PW.pt (pw_and (pt_cmpR op_eq (pe_ix ix_tup (pv 4) pe_int (fun _ _ => rfl)) pe_str (nomark _)) (pw_and (pt_cmp (pc_notN (pv 5))) (pw_and1 (pt_not (pt_val (pe_call GEf (hr.mono (by decide)) rfl aEf.m aEf.k aEf.b .nil pass0 (pa_cons (pv 5) (pa_cons (pe_ix ix_tup (pv 4) pe_int (fun _ _ => rfl)) (pa_cons (pv 6) (pa_cons (pv 7) pa_nil))))))))))) (pss_one (ps_ret pe_bl)) (pss_nil))))))
            (pss_one (ps_ret pe_bl)))))), ?_⟩
    refine fun d hd => ?_
    have sd := same_mk (o := .dT []) hd
    -- known
    refine ⟨_, rfl, a, rfl, ⟨_, SqL.of (sd _ _ ha)⟩, for_it (walk_list (K := K) (a := a) (xs := vs)) (fun i σ H' => ∃ x4 x5, σ = [some (.ref a), some (.ref b), some (.ref c), some (.ref d), x4, x5, none, none, none] ∧ Same H H' ∧ ∃ kvs : List (List L2.Key × V), H' d = some (.dT kvs) ∧ kvs.length ≤ i ∧
          (∀ s ∈ ss.take i, ∃ v, valV kvs (lkey s.1) = some v ∧ AnAt H v s.2) ∧ ∀ k v, LkW k → valV kvs (lkey k) = some v → ∃ s ∈ ss.take i, s.1 = k ∧ AnAt H v s.2)
      ⟨none, none, rfl, sd, [], upd_same, Nat.le_refl _, by simp, fun k v _ h => by cases h⟩ (fun i σ H' _ q => by obtain ⟨_, _, _, m, _⟩ := q; exact SqL.of (m _ _ ha)) ?_ ?_⟩
    · rintro i x _ _ H1 hi ⟨x4, x5, rfl, s1, kvs, hk, hkl, hk1, hk2⟩ ⟨rfl, hx⟩
      have his : i < ss.length := by omega
      have hsi : ss[i]? = some ss[i] := List.getElem?_eq_getElem his
      have hmem : ss[i] ∈ ss := List.getElem_mem his
      obtain ⟨ok, sz⟩ := hok ss[i] hmem
      have S0 := hav i x ss[i] hx hsi
      have tk : ss.take (i + 1) = ss.take i ++ [ss[i]] := by
        rw [List.take_succ, hsi]
        rfl
      generalize ss[i] = s0 at *
      obtain ⟨k, an⟩ := s0
      obtain ⟨t, u, va, rfl, h1, h2, h3⟩ := S0
      have h1' := s1 _ _ h1
      have h2' := s1 _ _ h2
      have key2 : H1 u = some (.tup ((lkey k).map kV)) := by rw [lkey_V]; exact h2'
      refine ⟨t, _, rfl, SqT.of h1', rfl, _, _, rfl, _, _, rfl, rfl, ?_⟩
      refine ⟨_, rfl, .inr (.inr (.inl ⟨rfl, .inr ⟨_, hk⟩⟩)), _, rfl, _, rfl, d, kvs, lkey k, u, va, rfl, rfl, hk, key2, Nat.lt_of_lt_of_le (show kvs.length < 100 by omega) (by decide), fun v hv => ?_, fun hn => ?_⟩
      · obtain ⟨s', hs', ek, hA⟩ := hk2 k v ok.2.1 hv
        have ok' := (hok s' (List.mem_of_mem_take hs')).1
        refine ⟨_, rfl, anD s'.2, anD an, an_dp (hA.up s1), an_dp (h3.up s1), anD_shaped ok'.2.2, anD_shaped ok.2.2, ?_⟩
        rw [eqv_an ok'.2.2 ok.2.2]
        by_cases ea : s'.2 = an
        · rw [decide_eq_true ea]
          refine ⟨_, rfl, iteF ⟨_, _, rfl, s1, kvs, hk, by omega, fun s hs => ?_, fun k' v' hk' hv' => ?_⟩⟩
          · rw [tk] at hs
            rcases List.mem_append.mp hs with g | g
            · exact hk1 s g
            · rw [List.mem_singleton.mp g]
              exact ⟨v, hv, by rw [← ea]; exact hA⟩
          · obtain ⟨s, hs, e⟩ := hk2 k' v' hk' hv'
            exact ⟨s, by rw [tk]; exact List.mem_append_left _ hs, e⟩
        · rw [decide_eq_false ea]
          refine ⟨_, rfl, iteT (fin false H1 s1 ⟨fun z => (nomatch z), fun z => absurd ?_ ea⟩)⟩
          exact z.1 s' (List.mem_of_mem_take hs') (k, an) hmem ek
      · have s2 : Same H (upd H1 d (.dT (putK kvs (lkey k) va))) := same_ch s1 hd
        refine ⟨_, rfl, anD an, anD an, an_dp (h3.up s2), an_dp (h3.up s2), anD_shaped ok.2.2, anD_shaped ok.2.2, ?_⟩
        rw [eqv_an ok.2.2 ok.2.2, decide_eq_true rfl]
        refine ⟨_, rfl, iteF ⟨_, _, rfl, s2, _, upd_same, ?_, fun s hs => ?_, fun k' v' hk' hv' => ?_⟩⟩
        · have := length_putK kvs (lkey k) va
          omega
        · rw [tk] at hs
          rw [valV_put]
          rcases List.mem_append.mp hs with g | g
          · obtain ⟨v, hv, hA⟩ := hk1 s g
            have ok' := (hok s (List.mem_of_mem_take g)).1
            rw [if_neg ?_]
            · exact ⟨v, hv, hA⟩
            · intro z
              rw [z, hn] at hv
              cases hv
          · rw [List.mem_singleton.mp g]
            exact ⟨va, if_pos rfl, h3⟩
        · rw [valV_put] at hv'
          by_cases e : lkey k' = lkey k
          · rw [if_pos e] at hv'
            cases hv'
            exact ⟨(k, an), by rw [tk]; simp, ((lkey_inj hk' ok.2.1).mp e).symm, h3⟩
          · rw [if_neg e] at hv'
            obtain ⟨s, hs, e⟩ := hk2 k' v' hk' hv'
            exact ⟨s, by rw [tk]; exact List.mem_append_left _ hs, e⟩
    rintro _ H1 ⟨x4, x5, rfl, s1, kvs0, hk, hkl, hk1, hk2⟩
    rw [hal, List.take_length] at hk1
    have cons : ∀ s ∈ ss, ∀ s' ∈ ss, s.1 = s'.1 → s.2 = s'.2 := fun s hs s' hs' e => by
      obtain ⟨v, hv, hA⟩ := hk1 s hs
      obtain ⟨v', hv', hA'⟩ := hk1 s' hs'
      rw [e, hv'] at hv
      cases hv
      exact anAt_inj hA hA' (hok s hs).1.2.2 (hok s' hs').1.2.2
    -- texts, dirs = must(..)
    refine ⟨_, rfl, _, rfl, _, rfl, a, b, c, ss, fi, fo, rfl, hsis0.up s1, hok, hss, s1 _ _ hb, hfi, hfil, s1 _ _ hc, hfo, hfol, fun t td te kvs dp H2 s2 td0 te0 ht htd ka kal hte da dal => ?_⟩
    have s12 := s1.trans s2
    refine ⟨t, _, rfl, SqT.of ht, rfl, _, _, rfl, _, _, rfl, rfl, ?_⟩
    obtain ⟨tp, e1, e2, e3, e4⟩ := KA.keys ka.1
    have tpT : ∀ p, Nms p → (p ∈ tp ↔ TM ss fi p) := fun p hp => ⟨fun h => (ka.2 p hp).mp (e4 p h), fun h => KA.has e1 ((ka.2 p hp).mpr h) (fun x hx => (e3 x hx).1) hp⟩
    have tde : te ≠ td := by
      rintro rfl
      rw [hte] at htd
      cases htd
    -- any(path in dirs for path in texts)
    refine ⟨td, _, htd, trivial, fun od => ⟨_, rfl, td, od, rfl, .inl ⟨kvs, upd_same, fun D hD => ?_⟩⟩⟩
    have htl : (upd H2 td (.frz od (.dK kvs))) te = some (.lst (dp.map pV)) := by rw [upd_ne tde]; exact hte
    refine lcW (walk_keys (kvs := kvs)) (tp.map fun p => .bl (decide (p ∈ dp))) (by rw [List.length_map, e2]) (by omega) hD (fun H' s => s _ _ upd_same) ?_ ?_
    · rintro i x y _ H3 hy s3 ⟨rfl, k, v, hkv, rfl⟩ Q1 k1
      have e1i : (kvs.map fun kv => kV kv.1)[i]? = some (kV k) := by rw [List.getElem?_map, hkv]; rfl
      rw [e1, List.getElem?_map] at e1i
      rw [List.getElem?_map] at hy
      match q : tp[i]? with
      | none =>
        rw [q] at hy
        cases hy
      | some p =>
        rw [q] at hy e1i
        cases hy
        have e1i : V.str (js p) = kV k := Option.some.inj e1i
        rw [← e1i]
        have hp := (e3 p (List.mem_of_getElem? q)).1
        refine ⟨_, rfl, _, rfl, te, _, rfl, .inl (SqL.of (s3 _ _ htl)), rfl, flat_paths dp, ?_⟩
        rw [show (if false = true then !inV (.str (js p)) (dp.map pV) else inV (.str (js p)) (dp.map pV)) = decide (p ∈ dp) from in_paths hp fun x hx => (da.1 x hx).1]
        exact k1 H3 (Same.refl H3)
    intro H3 s3 hD3
    have htd3 := s3 _ _ upd_same
    refine ⟨htd3, ?_⟩
    have s23 : Same H2 (upd H3 td (.dK kvs)) := fun x o hx => by
      by_cases e : x = td
      · rw [e] at hx ⊢
        rw [upd_same, ← hx, htd]
      · rw [upd_ne e]
        exact s3 _ _ (by rw [upd_ne e]; exact hx)
    have tdD : D ≠ td := by
      intro e
      rw [e, upd_same] at hD
      cases hD
    have hD4 : (upd H3 td (.dK kvs)) D = some (.lst (tp.map fun p => .bl (decide (p ∈ dp)))) := by
      rw [upd_ne tdD]
      exact hD3
    refine ⟨D, tp.map fun p => decide (p ∈ dp), rfl, SqL.of (by rw [hD4, List.map_map]; rfl), ?_⟩
    rw [show (tp.map fun p => decide (p ∈ dp)).any id = tp.any fun p => decide (p ∈ dp) by rw [List.any_map]; rfl]
    refine ⟨_, rfl, ?_⟩
    have s13 := s12.trans s23
    generalize (upd H3 td (.dK kvs)) = H4 at *
    by_cases ex : (tp.any fun p => decide (p ∈ dp)) = true
    · rw [ex]
      refine iteT (fin false H4 s13 ⟨fun z => (nomatch z), fun z => ?_⟩)
      obtain ⟨p, hp, hq⟩ := List.any_eq_true.mp ex
      have np := (e3 p hp).1
      exact absurd ((da.2 p).mp (of_decide_eq_true hq)) (z.2.1 p np ((tpT p np).mp hp))
    rw [Bool.not_eq_true] at ex
    rw [ex]
    refine iteF ?_
    have apart : ∀ p, Nms p → TM ss fi p → ¬ DM ss fi fo p := fun p hp h1 h2 => by
      have := List.any_eq_false.mp ex p ((tpT p hp).mpr h1)
      exact this (decide_eq_true ((da.2 p).mpr h2))
    -- the last loop
    have td4 := s23 _ _ htd
    have te4 := s23 _ _ hte
    refine ⟨_, rfl, a, rfl, ⟨_, SqL.of (s13 _ _ ha)⟩, for_it (walk_list (K := K) (a := a) (xs := vs)) (fun i σ H' => ∃ x4 x5 x8, σ = [some (.ref a), some (.ref b), some (.ref c), some (.ref d), x4, x5, some (.ref td), some (.ref te), x8] ∧ Same H4 H' ∧ ∀ s ∈ ss.take i, FitS (TM ss fi) (DM ss fi fo) s)
      ⟨_, _, _, rfl, Same.refl _, by simp⟩ (fun i σ H' _ q => by obtain ⟨_, _, _, _, m, _⟩ := q; exact SqL.of ((s13.trans m) _ _ ha)) ?_ ?_⟩
    · rintro i x _ _ H5 hi ⟨x4, x5, x8, rfl, s5, hf⟩ ⟨rfl, hx⟩
      have his : i < ss.length := by omega
      have hsi : ss[i]? = some ss[i] := List.getElem?_eq_getElem his
      have hmem : ss[i] ∈ ss := List.getElem_mem his
      obtain ⟨ok, sz⟩ := hok ss[i] hmem
      have S0 := hav i x ss[i] hx hsi
      have tk : ss.take (i + 1) = ss.take i ++ [ss[i]] := by
        rw [List.take_succ, hsi]
        rfl
      generalize ss[i] = s0 at *
      obtain ⟨k, an⟩ := s0
      obtain ⟨t', u, va, rfl, h1, h2, h3⟩ := S0
      have s15 := s13.trans s5
      have h1' := s15 _ _ h1
      have h2' := s15 _ _ h2
      have td5 := s5 _ _ td4
      have te5 := s5 _ _ te4
      have nxt : ∀ (H6 : Hp), Same H5 H6 → FitS (TM ss fi) (DM ss fi fo) (k, an) → ∃ y4 y5 y8, [some (.ref a), some (.ref b), some (.ref c), some (.ref d), some (.ref u), some va, some (.ref td), some (.ref te), x8] = [some (.ref a), some (.ref b), some (.ref c), some (.ref d), y4, y5, some (.ref td), some (.ref te), y8] ∧ Same H4 H6 ∧ ∀ s ∈ ss.take (i + 1), FitS (TM ss fi) (DM ss fi fo) s := fun H6 s6 ok => ⟨_, _, _, rfl, s5.trans s6, fun y hy => by
        rw [tk] at hy
        rcases List.mem_append.mp hy with g | g
        · exact hf y g
        · rw [List.mem_singleton.mp g]
          exact ok⟩
      have bad : ∀ (H6 : Hp), Same H5 H6 → ¬ FitS (TM ss fi) (DM ss fi fo) (k, an) → Q (.bl false) H6 := fun H6 s6 no => fin false H6 (s15.trans s6) ⟨fun z => (nomatch z), fun z => absurd (z.2.2 _ hmem) no⟩
      refine ⟨t', _, rfl, SqT.of h1', rfl, _, _, rfl, _, _, rfl, rfl, ?_⟩
      cases k with
      | rd q =>
        have nq : Nms q := ok.1.1.2.1
        refine ⟨_, rfl, u, _, 0, _, rfl, rfl, SqT.of h2', atI_nat (j := 0) rfl, rfl, _, rfl, iteY rfl ?_⟩
        have rest : (∀ H6, Same H5 H6 → FitS (TM ss fi) (DM ss fi fo) (.rd q, an)) → FitS (TM ss fi) (DM ss fi fo) (.rd q, an) := fun h => h H5 (Same.refl _)
        cases an with
        | no =>
          cases (show va = .non from h3)
          refine ⟨_, rfl, _, rfl, iteT ⟨_, rfl, u, _, 1, _, rfl, rfl, SqT.of h2', atI_nat (j := 1) rfl, _, rfl, td, _, rfl, DGet.k (k := pkey q) td5, _, rfl, ?_⟩⟩
          cases ev : (valV kvs (pkey q)).isSome with
          | true => exact iteT (bad H5 (Same.refl _) fun z => z ((ka.2 q nq).mp ev))
          | false =>
            refine iteF ⟨_, rfl, u, _, 0, _, rfl, rfl, SqT.of h2', atI_nat (j := 0) rfl, rfl, _, rfl, iteN (by decide +kernel) ⟨_, rfl, u, _, 0, _, rfl, rfl, SqT.of h2', atI_nat (j := 0) rfl, rfl, _, rfl, iteN (by decide +kernel) (nxt H5 (Same.refl _) fun z => ?_)⟩⟩
            rw [(ka.2 q nq).mpr z] at ev
            cases ev
        | tx z =>
          cases (show va = .str z from h3)
          exact ⟨_, rfl, _, rfl, iteN (by intro z; cases z) ⟨_, rfl, u, _, 0, _, rfl, rfl, SqT.of h2', atI_nat (j := 0) rfl, rfl, _, rfl, iteN (by decide +kernel) ⟨_, rfl, u, _, 0, _, rfl, rfl, SqT.of h2', atI_nat (j := 0) rfl, rfl, _, rfl, iteN (by decide +kernel) (nxt H5 (Same.refl _) trivial)⟩⟩⟩
        | es l => exact ok.1.2.elim
      | ls q =>
        have nq : Nms q := ok.1.1.1
        refine ⟨_, rfl, u, _, 0, _, rfl, rfl, SqT.of h2', atI_nat (j := 0) rfl, rfl, _, rfl, iteN (by decide +kernel) ⟨_, rfl, u, _, 0, _, rfl, rfl, SqT.of h2', atI_nat (j := 0) rfl, rfl, _, rfl, iteY rfl ?_⟩⟩
        cases an with
        | no =>
          cases (show va = .non from h3)
          refine ⟨_, rfl, _, rfl, iteT ⟨_, rfl, u, _, 1, _, rfl, rfl, SqT.of h2', atI_nat (j := 1) rfl, _, rfl, te, _, rfl, .inl (SqL.of te5), rfl, flat_paths dp, ?_⟩⟩
          rw [show (if false = true then !inV (.str (js q)) (dp.map pV) else inV (.str (js q)) (dp.map pV)) = decide (q ∈ dp) from in_paths nq fun x hx => (da.1 x hx).1]
          by_cases eq : q ∈ dp
          · exact ⟨_, rfl, iteY eq (bad H5 (Same.refl _) fun z => z ((da.2 q).mp eq))⟩
          · exact ⟨_, rfl, iteN eq ⟨_, rfl, u, _, 0, _, rfl, rfl, SqT.of h2', atI_nat (j := 0) rfl, rfl, _, rfl, iteY rfl ⟨_, rfl, _, rfl, iteF (nxt H5 (Same.refl _) fun z => eq ((da.2 q).mpr z))⟩⟩⟩
        | tx z => exact ok.1.2.elim
        | es l =>
          obtain ⟨g, rfl, hg⟩ := h3
          refine ⟨_, rfl, _, rfl, iteN (by intro z; cases z) ⟨_, rfl, u, _, 0, _, rfl, rfl, SqT.of h2', atI_nat (j := 0) rfl, rfl, _, rfl, iteY rfl ⟨_, rfl, _, rfl, iteT ⟨_, rfl, _, rfl, u, _, 1, _, rfl, rfl, SqT.of h2', atI_nat (j := 1) rfl, _, rfl, _, rfl, g, td, te, l, q, kvs, dp, TM ss fi, DM ss fi fo, rfl, s15 _ _ hg, ok.1.2.1.1, nq, Nat.le_trans sz.1 (by decide), td5, ka, kal, te5, da, dal, fun r H6 s6 hr6 => ⟨_, rfl, ?_⟩⟩⟩⟩⟩
          cases r with
          | true => exact iteF (nxt H6 s6 (hr6.mp rfl))
          | false => exact iteT (bad H6 s6 fun z => by cases hr6.mpr z)
      | se n =>
        refine ⟨_, rfl, u, _, 0, _, rfl, rfl, SqT.of h2', atI_nat (j := 0) rfl, rfl, _, rfl, iteN (by decide +kernel) ⟨_, rfl, u, _, 0, _, rfl, rfl, SqT.of h2', atI_nat (j := 0) rfl, rfl, _, rfl, iteN (by decide +kernel) ⟨_, rfl, u, _, 0, _, rfl, rfl, SqT.of h2', atI_nat (j := 0) rfl, rfl, _, rfl, iteN (by decide +kernel) (nxt H5 (Same.refl _) (by cases an <;> trivial))⟩⟩⟩
      | tl =>
        refine ⟨_, rfl, u, _, 0, _, rfl, rfl, SqT.of h2', atI_nat (j := 0) rfl, rfl, _, rfl, iteN (by decide +kernel) ⟨_, rfl, u, _, 0, _, rfl, rfl, SqT.of h2', atI_nat (j := 0) rfl, rfl, _, rfl, iteN (by decide +kernel) ⟨_, rfl, u, _, 0, _, rfl, rfl, SqT.of h2', atI_nat (j := 0) rfl, rfl, _, rfl, iteN (by decide +kernel) (nxt H5 (Same.refl _) (by cases an <;> trivial))⟩⟩⟩
    · rintro _ H5 ⟨x4, x5, x8, rfl, s5, hf⟩
      rw [hal, List.take_length] at hf
      exact fin true H5 (s13.trans s5) ⟨fun _ => ⟨cons, apart, hf⟩, fun _ => rfl⟩
end
end K3

set_option maxHeartbeats 3900000
namespace K3
open PySem PySem.Spec PyProof.Rows L2 TL
open CB
theorem ent_uniq {l : List (Str × Bool)} (h : Ents l) {n : Str} (a : (n, true) ∈ l) (b : (n, false) ∈ l) : False := by
  obtain ⟨i, hi, ei⟩ := List.getElem_of_mem a
  obtain ⟨j, hj, ej⟩ := List.getElem_of_mem b
  have irr : ∀ x : List Nat, ¬ x < x := fun x hx => List.lt_irrefl x hx
  have pw := List.pairwise_iff_getElem.mp h.2.1
  have key : ∀ (i j : Nat) (hi : i < l.length) (hj : j < l.length), i < j → l[i].1 = n → l[j].1 = n → False := fun i j hi hj hij e1 e2 => by
    have := pw i j (by rw [List.length_map]; exact hi) (by rw [List.length_map]; exact hj) hij
    rw [List.getElem_map, List.getElem_map, e1, e2] at this
    exact irr _ this
  rcases Nat.lt_trichotomy i j with q | q | q
  · exact key i j hi hj q (by rw [ei]) (by rw [ej])
  · subst q
    rw [ei] at ej
    cases ej
  · exact key j i hj hi q (by rw [ej]) (by rw [ei])
theorem ben_irr (q : List Str) : ben q q = false := by
  cases e : ben q q with
  | false => rfl
  | true =>
    obtain ⟨r, hr, h⟩ := ben_iff.mp e
    have := congrArg List.length h
    have h2 := List.length_pos_iff.mpr hr
    rw [List.length_append] at this
    omega
theorem ben_len {p q : List Str} (h : ben p q = true) : q.length < p.length := by
  unfold ben at h
  rw [Bool.and_eq_true] at h
  exact of_decide_eq_true h.2
theorem ben_tr {p q r : List Str} (h : ben p q = true) (g : ben q r = true) : ben p r = true := by
  obtain ⟨a, ha, rfl⟩ := ben_iff.mp h
  obtain ⟨b, hb, rfl⟩ := ben_iff.mp g
  exact ben_iff.mpr ⟨b ++ a, by simp [hb], by simp⟩
theorem ben_nil {p : List Str} : ben [] p = false := by
  cases e : ben [] p with
  | false => rfl
  | true => exact absurd (ben_len e) (by simp)
theorem ben_cons (q : List Str) (n : Str) (r : List Str) : ben (q ++ n :: r) q = true := ben_iff.mpr ⟨n :: r, by simp, rfl⟩
theorem ben_dest {p q : List Str} (h : ben p q = true) : ∃ n r, p = q ++ n :: r := by
  obtain ⟨t, ht, rfl⟩ := ben_iff.mp h
  cases t with
  | nil => exact absurd rfl ht
  | cons n r => exact ⟨n, r, rfl⟩
theorem lostP_in (q : List Str) (l : List (Str × Bool)) (w : Bool) (n : Str) (r : List Str) : lostP q l w (q ++ n :: r) = (if (n, true) ∈ l then w && decide (r = []) else if (n, false) ∈ l then !w || !decide (r = []) else true) := by
  unfold lostP
  rw [if_pos (ben_cons q n r), List.drop_left]
theorem lostP_out {q : List Str} {l : List (Str × Bool)} {w : Bool} {p : List Str} (h : ben p q = false) : lostP q l w p = (w && (decide (q = p) || ben q p)) := by
  unfold lostP
  rw [if_neg (by rw [h]; simp)]
def Ds (s : Lk × An) (p : List Str) : Prop := (p = [] ∨ DirOf s p) ∨ (p ≠ [] ∧ ∃ r, (TxtOf s r ∨ (r = [] ∨ DirOf s r)) ∧ ben r p = true)
theorem tm_two (s s' : Lk × An) (p : List Str) : TM [s, s'] [] p ↔ TxtOf s p ∨ TxtOf s' p := by
  unfold TM
  simp
theorem dm_two (s s' : Lk × An) (p : List Str) : DM [s, s'] [] [] p ↔ Ds s p ∨ Ds s' p := by
  unfold DM Ds D0M TM
  simp only [List.mem_cons, List.not_mem_nil, or_false, false_or, exists_eq_or_imp, exists_eq_left]
  constructor
  · rintro ((h | h | h) | ⟨hp, r, (h | h) | (h | h | h), g⟩)
    · exact .inl (.inl (.inl h))
    · exact .inl (.inl (.inr h))
    · exact .inr (.inl (.inr h))
    · exact .inl (.inr ⟨hp, r, .inl h, g⟩)
    · exact .inr (.inr ⟨hp, r, .inl h, g⟩)
    · exact .inl (.inr ⟨hp, r, .inr (.inl h), g⟩)
    · exact .inl (.inr ⟨hp, r, .inr (.inr h), g⟩)
    · exact .inr (.inr ⟨hp, r, .inr (.inr h), g⟩)
  · rintro (((h | h) | ⟨hp, r, h | (h | h), g⟩) | ((h | h) | ⟨hp, r, h | (h | h), g⟩))
    · exact .inl (.inl h)
    · exact .inl (.inr (.inl h))
    · exact .inr ⟨hp, r, .inl (.inl h), g⟩
    · exact .inr ⟨hp, r, .inr (.inl h), g⟩
    · exact .inr ⟨hp, r, .inr (.inr (.inl h)), g⟩
    · exact .inl (.inl h)
    · exact .inl (.inr (.inr h))
    · exact .inr ⟨hp, r, .inl (.inr h), g⟩
    · exact .inr ⟨hp, r, .inr (.inl h), g⟩
    · exact .inr ⟨hp, r, .inr (.inr (.inr h)), g⟩
def ff (s : Lk × An) (p : List Str) : Bool := decide (s = (.rd p, .no)) || follL s (.rd p)
def fd (s : Lk × An) (p : List Str) : Bool := decide (s = (.ls p, .no)) || follL s (.ls p)
theorem foll_rd (s : Lk × An) (p : List Str) : follM s (.rd p, .no) = ff s p := rfl
theorem foll_ls (s : Lk × An) (p : List Str) : follM s (.ls p, .no) = fd s p := rfl
theorem ff_A (q p : List Str) : ff (.rd q, .no) p = decide (q = p) := by
  unfold ff
  simp [follL]
theorem fd_A (q p : List Str) : fd (.rd q, .no) p = false := by
  unfold fd
  simp [follL]
theorem ff_B (q p : List Str) (z : Str) : ff (.rd q, .tx z) p = (ben p q || ben q p) := by
  unfold ff
  simp [follL, lostF]
theorem fd_B (q p : List Str) (z : Str) : fd (.rd q, .tx z) p = (decide (p = q) || ben p q) := by
  unfold fd
  simp [follL, lostF]
theorem ff_C (q p : List Str) : ff (.ls q, .no) p = ben p q := by
  unfold ff
  simp [follL]
theorem fd_C (q p : List Str) : fd (.ls q, .no) p = (decide (q = p) || ben p q) := by
  unfold fd
  simp [follL]
theorem ff_D (q p : List Str) (l : List (Str × Bool)) : ff (.ls q, .es l) p = lostP q l true p := by
  unfold ff
  simp [follL, lostN]
theorem fd_D (q p : List Str) (l : List (Str × Bool)) : fd (.ls q, .es l) p = lostP q l false p := by
  unfold fd
  simp [follL, lostN]
inductive Shape : Lk × An → Prop
  | A (q) (h : q ≠ []) (n : Nms q) : Shape (.rd q, .no)
  | B (q z) (h : q ≠ []) (n : Nms q) : Shape (.rd q, .tx z)
  | C (q) (h : q ≠ []) (n : Nms q) : Shape (.ls q, .no)
  | D (q l) (h : Ents l) (g : l ≠ [] ∨ q = []) (n : Nms q) : Shape (.ls q, .es l)
  | N (k a) (h : (∃ n, k = .se n) ∨ k = .tl) : Shape (k, a)
theorem shape_of {s : Lk × An} (h : SiOk s) : Shape s := by
  obtain ⟨k, a⟩ := s
  obtain ⟨h1, h2⟩ := h
  cases k with
  | rd q =>
    cases a with
    | no => exact .A q h1.1 h1.2.1
    | tx z => exact .B q z h1.1 h1.2.1
    | es l => exact h2.elim
  | ls q =>
    cases a with
    | no => exact .C q h2 h1.1
    | tx z => exact h2.elim
    | es l => exact .D q l h2.1 h2.2 h1.1
  | se n => exact .N _ _ (.inl ⟨n, rfl⟩)
  | tl => exact .N _ _ (.inr rfl)
theorem ff_N {k : Lk} {a : An} (h : (∃ n, k = .se n) ∨ k = .tl) (p : List Str) : ff (k, a) p = false ∧ fd (k, a) p = false := by
  rcases h with ⟨n, rfl⟩ | rfl <;> (unfold ff fd; simp [follL])
theorem need_N {k : Lk} {a : An} (h : (∃ n, k = .se n) ∨ k = .tl) (p : List Str) : ¬ TxtOf (k, a) p ∧ ¬ DirOf (k, a) p := by
  rcases h with ⟨n, rfl⟩ | rfl <;> exact ⟨fun h => h, fun h => h⟩
theorem nm_app1 {q : List Str} {n : Str} (hq : Nms q) (hn : IsNm n) : Nms (q ++ [n]) := fun y hy => by
  rcases List.mem_append.mp hy with h | h
  · exact hq y h
  · rw [List.mem_singleton.mp h]
    exact hn
theorem txt_nm {s : Lk × An} (h : Shape s) {p : List Str} (t : TxtOf s p) : Nms p ∧ p ≠ [] := by
  cases h with
  | A q h n => exact t.elim
  | B q z h n =>
    have e : p = q := t
    rw [e]
    exact ⟨n, h⟩
  | C q h n => exact t.elim
  | D q l h g n =>
    obtain ⟨m, hm, rfl⟩ := t
    exact ⟨nm_app1 n (h.1 _ hm), by simp⟩
  | N k a h => exact ((need_N h p).1 t).elim
theorem dir_nm {s : Lk × An} (h : Shape s) {p : List Str} (t : DirOf s p) : Nms p := by
  cases h with
  | A q h n => exact t.elim
  | B q z h n => exact t.elim
  | C q h n => exact t.elim
  | D q l h g n =>
    rcases t with rfl | ⟨m, hm, rfl⟩
    · exact n
    · exact nm_app1 n (h.1 _ hm)
  | N k a h => exact ((need_N h p).2 t).elim
theorem nms_ben {p q : List Str} (h : ben p q = true) (n : Nms p) : Nms q := by
  obtain ⟨r, _, rfl⟩ := ben_iff.mp h
  exact fun y hy => n y (List.mem_append_left _ hy)
theorem ds_nm {s : Lk × An} (h : Shape s) {p : List Str} (t : Ds s p) : Nms p := by
  rcases t with (rfl | t) | ⟨_, r, t | rfl | t, g⟩
  · exact fun y hy => absurd hy (by simp)
  · exact dir_nm h t
  · exact nms_ben g (txt_nm h t).1
  · exact absurd (ben_len g) (by simp)
  · exact nms_ben g (dir_nm h t)
theorem ds_up {s : Lk × An} {p q : List Str} (h : Ds s p ∨ TxtOf s p) (b : ben p q = true) (hq : q ≠ []) : Ds s q := by
  rcases h with ((rfl | t) | ⟨_, r, t, g⟩) | t
  · rw [ben_nil] at b
    cases b
  · exact .inr ⟨hq, p, .inr (.inr t), b⟩
  · exact .inr ⟨hq, r, t, ben_tr g b⟩
  · exact .inr ⟨hq, p, .inl t, b⟩
theorem fd_down {s : Lk × An} {p p' : List Str} (h : fd s p = true) (b : ben p' p = true) (hs : Shape s) : ff s p' = true ∧ fd s p' = true := by
  cases hs with
  | A q g n =>
    rw [fd_A] at h
    cases h
  | B q z g n =>
    rw [fd_B, Bool.or_eq_true, decide_eq_true_iff] at h
    have hb : ben p' q = true := by
      rcases h with rfl | h
      · exact b
      · exact ben_tr b h
    rw [ff_B, fd_B, hb]
    simp
  | C q g n =>
    rw [fd_C, Bool.or_eq_true, decide_eq_true_iff] at h
    have hb : ben p' q = true := by
      rcases h with rfl | h
      · exact b
      · exact ben_tr b h
    rw [ff_C, fd_C, hb]
    simp
  | D q l g g2 n =>
    rw [fd_D] at h
    cases e : ben p q with
    | false =>
      rw [lostP_out e] at h
      cases h
    | true =>
      obtain ⟨m, r, rfl⟩ := ben_dest e
      obtain ⟨x, hx, rfl⟩ := ben_iff.mp b
      rw [lostP_in] at h
      rw [ff_D, fd_D, List.append_assoc, List.cons_append, lostP_in, lostP_in]
      by_cases h1 : (m, true) ∈ l
      · rw [if_pos h1] at h
        cases h
      · rw [if_neg h1, if_neg h1]
        by_cases h2 : (m, false) ∈ l
        · simp [h2, hx]
        · simp [h2]
  | N k a g =>
    rw [(ff_N g p).2] at h
    cases h
theorem fd_root {s : Lk × An} (hs : Shape s) : fd s [] = false := by
  cases hs with
  | A q g n => exact fd_A q []
  | B q z g n =>
    rw [fd_B, ben_nil]
    simpa using g
  | C q g n =>
    rw [fd_C, ben_nil]
    simpa using g
  | D q l g g2 n =>
    rw [fd_D, lostP_out ben_nil]
    rfl
  | N k a g => exact (ff_N g []).2
theorem txt_fd {s : Lk × An} (hs : Shape s) {p : List Str} (t : TxtOf s p) : fd s p = true := by
  cases hs with
  | A q g n => exact t.elim
  | B q z g n =>
    have e : p = q := t
    rw [fd_B, e]
    simp
  | C q g n => exact t.elim
  | D q l g g2 n =>
    obtain ⟨m, hm, rfl⟩ := t
    rw [fd_D, lostP_in, if_neg (fun a => ent_uniq g a hm), if_pos hm]
    rfl
  | N k a g => exact ((need_N g p).1 t).elim
theorem self1 {s : Lk × An} (hs : Shape s) {p : List Str} (t : TxtOf s p) : ¬ Ds s p := by
  intro d
  have hne := (txt_nm hs t).2
  cases hs with
  | A q g n => exact t.elim
  | B q z g n =>
    have e : p = q := t
    subst e
    rcases d with (d | d) | ⟨_, r, d | rfl | d, b⟩
    · exact hne d
    · exact d.elim
    · have e : r = p := d
      rw [e, ben_irr] at b
      cases b
    · rw [ben_nil] at b
      cases b
    · exact d.elim
  | C q g n => exact t.elim
  | D q l g g2 n =>
    obtain ⟨m, hm, rfl⟩ := t
    rcases d with (d | d) | ⟨_, r, d | rfl | d, b⟩
    · exact hne d
    · rcases d with d | ⟨k, hk, e⟩
      · have := congrArg List.length d
        simp at this
      · have := List.append_cancel_left e
        cases this
        exact ent_uniq g hk hm
    · obtain ⟨k, hk, rfl⟩ := d
      have := ben_len b
      simp at this
    · rw [ben_nil] at b
      cases b
    · rcases d with rfl | ⟨k, hk, rfl⟩
      · have := ben_len b
        simp at this
        omega
      · have := ben_len b
        simp at this
  | N k a g => exact ((need_N g p).1 t).elim
theorem self2 {q : List Str} {l : List (Str × Bool)} {n : Str} {r : List Str} : (TxtOf (.ls q, .es l) (q ++ n :: r) → r = [] ∧ (n, false) ∈ l) ∧ (Ds (.ls q, .es l) (q ++ n :: r) → r = [] ∧ (n, true) ∈ l) := by
  have lem : ∀ {k : Str}, q ++ n :: r = q ++ [k] → r = [] ∧ n = k := fun e => by
    have := List.append_cancel_left e
    cases this
    exact ⟨rfl, rfl⟩
  have lim : ∀ {x : List Str}, x.length ≤ q.length + 1 → ben x (q ++ n :: r) = true → False := fun hx b => by
    have := ben_len b
    simp at this
    omega
  constructor
  · rintro ⟨k, hk, e⟩
    obtain ⟨e1, rfl⟩ := lem e
    exact ⟨e1, hk⟩
  · rintro ((d | d) | ⟨_, x, d | rfl | d, b⟩)
    · simp at d
    · rcases d with d | ⟨k, hk, e⟩
      · have := congrArg List.length d
        simp at this
      · obtain ⟨e1, rfl⟩ := lem e
        exact ⟨e1, hk⟩
    · obtain ⟨k, hk, rfl⟩ := d
      exact (lim (by simp) b).elim
    · rw [ben_nil] at b
      cases b
    · rcases d with rfl | ⟨k, hk, rfl⟩
      · exact (lim (by simp) b).elim
      · exact (lim (by simp) b).elim
def Cross (s s' : Lk × An) : Prop := (∀ p, TxtOf s' p → ff s p = false) ∧ ∀ p, Ds s' p → fd s p = false
theorem cross_con {s s' : Lk × An} (hs : Shape s) (hs' : Shape s') : denM s (con s') = false ↔ Cross s s' := by
  unfold denM
  rw [List.any_eq_false]
  constructor
  · intro h
    have h1 : ∀ p, TxtOf s' p → ff s p = false := by
      intro p t
      cases hs' with
      | A q g n => exact t.elim
      | B q z g n =>
        have e : p = q := t
        have := h (.rd q, .no) (List.mem_singleton.mpr rfl)
        rw [foll_rd] at this
        rw [e]
        simpa using this
      | C q g n => exact t.elim
      | D q l g g2 n =>
        obtain ⟨m, hm, rfl⟩ := t
        have := h (conE q (m, false)) (List.mem_map.mpr ⟨_, hm, rfl⟩)
        have e : conE q (m, false) = (.rd (q ++ [m]), .no) := rfl
        rw [e, foll_rd] at this
        simpa using this
      | N k a g => exact ((need_N g p).1 t).elim
    have h2 : ∀ p, DirOf s' p → fd s p = false := by
      intro p t
      cases hs' with
      | A q g n => exact t.elim
      | B q z g n => exact t.elim
      | C q g n => exact t.elim
      | D q l g g2 n =>
        have hd : ∀ m, (m, true) ∈ l → fd s (q ++ [m]) = false := fun m hm => by
          have := h (conE q (m, true)) (List.mem_map.mpr ⟨_, hm, rfl⟩)
          have e : conE q (m, true) = (.ls (q ++ [m]), .no) := rfl
          rw [e, foll_ls] at this
          simpa using this
        rcases t with rfl | ⟨m, hm, rfl⟩
        · rcases g2 with g2 | rfl
          · cases l with
            | nil => exact absurd rfl g2
            | cons e l' =>
              cases ef : fd s p with
              | false => rfl
              | true =>
                obtain ⟨m, b⟩ := e
                obtain ⟨f1, f2⟩ := fd_down ef (ben_cons p m []) hs
                cases b with
                | true =>
                  rw [hd m (List.mem_cons_self ..)] at f2
                  cases f2
                | false =>
                  rw [h1 (p ++ [m]) ⟨m, List.mem_cons_self .., rfl⟩] at f1
                  cases f1
          · exact fd_root hs
        · exact hd m hm
      | N k a g => exact ((need_N g p).2 t).elim
    refine ⟨h1, ?_⟩
    rintro p ((rfl | d) | ⟨hp, r, d | rfl | d, b⟩)
    · exact fd_root hs
    · exact h2 p d
    · cases ef : fd s p with
      | false => rfl
      | true =>
        have := (fd_down ef b hs).1
        rw [h1 r d] at this
        cases this
    · rw [ben_nil] at b
      cases b
    · cases ef : fd s p with
      | false => rfl
      | true =>
        have := (fd_down ef b hs).2
        rw [h2 r d] at this
        cases this
  · rintro ⟨h1, h2⟩ x hx
    cases hs' with
    | A q g n => exact absurd hx (by simp [con])
    | B q z g n =>
      rw [List.mem_singleton.mp hx, foll_rd, h1 q rfl]
      simp
    | C q g n => exact absurd hx (by simp [con])
    | D q l g g2 n =>
      obtain ⟨⟨m, b⟩, hm, rfl⟩ := List.mem_map.mp hx
      cases b with
      | true =>
        have e : conE q (m, true) = (.ls (q ++ [m]), .no) := rfl
        rw [e, foll_ls, h2 _ (.inl (.inr (.inr ⟨m, hm, rfl⟩)))]
        simp
      | false =>
        have e : conE q (m, false) = (.rd (q ++ [m]), .no) := rfl
        rw [e, foll_rd, h1 _ ⟨m, hm, rfl⟩]
        simp
    | N k a g =>
      rcases g with ⟨n, rfl⟩ | rfl <;> exact absurd hx (by simp [con])
theorem fits_cross {s s' : Lk × An} {T D : List Str → Prop} (hs : Shape s) (hs' : Shape s')
    (hT : ∀ p, T p ↔ TxtOf s p ∨ TxtOf s' p) (hD : ∀ p, D p ↔ Ds s p ∨ Ds s' p)
    (dis : ∀ p, Nms p → T p → ¬ D p) (fit : FitS T D s) : Cross s s' := by
  have up : ∀ {p q : List Str}, D p ∨ T p → ben p q = true → q ≠ [] → D q := by
    intro p q h b hq
    rcases h with h | h
    · rcases (hD p).mp h with h | h
      · exact (hD q).mpr (.inl (ds_up (.inl h) b hq))
      · exact (hD q).mpr (.inr (ds_up (.inl h) b hq))
    · rcases (hT p).mp h with h | h
      · exact (hD q).mpr (.inl (ds_up (.inr h) b hq))
      · exact (hD q).mpr (.inr (ds_up (.inr h) b hq))
  constructor
  · intro p t
    have tp : T p := (hT p).mpr (.inr t)
    obtain ⟨np, pe⟩ := txt_nm hs' t
    cases e : ff s p with
    | false => rfl
    | true =>
      exfalso
      cases hs with
      | A q g n =>
        rw [ff_A] at e
        exact fit (of_decide_eq_true e ▸ tp)
      | B q z g n =>
        have tq : T q := (hT q).mpr (.inl rfl)
        rw [ff_B, Bool.or_eq_true] at e
        rcases e with e | e
        · exact dis q n tq (up (.inr tp) e g)
        · exact dis p np tp (up (.inr tq) e pe)
      | C q g n =>
        rw [ff_C] at e
        exact fit (up (.inr tp) e g)
      | D q l g g2 n =>
        rw [ff_D] at e
        cases b : ben p q with
        | true =>
          obtain ⟨m, r, rfl⟩ := ben_dest b
          rw [lostP_in] at e
          obtain ⟨f1, f2⟩ := fit _ np (.inl tp) m r rfl
          have nd := dis _ np tp
          by_cases h1 : (m, true) ∈ l
          · rw [if_pos h1, Bool.true_and, decide_eq_true_iff] at e
            subst e
            exact nd ((hD _).mpr (.inl (.inl (.inr (.inr ⟨m, h1, rfl⟩)))))
          · by_cases hr : r = []
            · subst hr
              rw [if_neg h1, if_pos (f2 (by simp [nd]))] at e
              simp at e
            · exact h1 (f1 (.inl hr))
        | false =>
          rw [lostP_out b, Bool.true_and, Bool.or_eq_true, decide_eq_true_iff] at e
          have dq : D q := (hD q).mpr (.inl (.inl (.inr (.inl rfl))))
          rcases e with rfl | e
          · exact dis q np tp dq
          · exact dis p np tp (up (.inl dq) e pe)
      | N k a g =>
        rw [(ff_N g p).1] at e
        cases e
  · intro p t
    have dp : D p := (hD p).mpr (.inr t)
    have np := ds_nm hs' t
    cases e : fd s p with
    | false => rfl
    | true =>
      exfalso
      cases hs with
      | A q g n =>
        rw [fd_A] at e
        cases e
      | B q z g n =>
        have tq : T q := (hT q).mpr (.inl rfl)
        rw [fd_B, Bool.or_eq_true, decide_eq_true_iff] at e
        rcases e with rfl | e
        · exact dis p np tq dp
        · exact dis q n tq (up (.inl dp) e g)
      | C q g n =>
        rw [fd_C, Bool.or_eq_true, decide_eq_true_iff] at e
        rcases e with rfl | e
        · exact fit dp
        · exact fit (up (.inl dp) e g)
      | D q l g g2 n =>
        rw [fd_D] at e
        cases b : ben p q with
        | true =>
          obtain ⟨m, r, rfl⟩ := ben_dest b
          rw [lostP_in] at e
          obtain ⟨f1, f2⟩ := fit _ np (.inr dp) m r rfl
          rw [if_pos (f1 (.inr dp))] at e
          cases e
        | false =>
          rw [lostP_out b] at e
          cases e
      | N k a g =>
        rw [(ff_N g p).2] at e
        cases e
theorem fit_of {s s' : Lk × An} {T D : List Str → Prop} (hs : Shape s) (hs' : Shape s')
    (hT : ∀ p, T p ↔ TxtOf s p ∨ TxtOf s' p) (hD : ∀ p, D p ↔ Ds s p ∨ Ds s' p) (c : Cross s s') (dis : ∀ p, T p → ¬ D p) : FitS T D s := by
  obtain ⟨c1, c2⟩ := c
  cases hs with
  | A q g n =>
    intro t
    rcases (hT q).mp t with t | t
    · exact t
    · have := c1 q t
      rw [ff_A] at this
      simp at this
  | B q z g n => trivial
  | C q g n =>
    intro d
    rcases (hD q).mp d with d | d
    · rcases d with (d | d) | ⟨_, r, d | rfl | d, b⟩
      · exact g d
      · exact d
      · exact d
      · rw [ben_nil] at b
        cases b
      · exact d
    · have := c2 q d
      rw [fd_C] at this
      simp at this
  | D q l g g2 n =>
    rintro p np h m r rfl
    have foll : ∀ (w : Bool), lostP q l w (q ++ m :: r) = false → ((m, true) ∈ l ∧ (w = true → r ≠ [])) ∨ ((m, true) ∉ l ∧ (m, false) ∈ l ∧ w = true ∧ r = []) := by
      intro w e
      rw [lostP_in] at e
      by_cases h1 : (m, true) ∈ l
      · rw [if_pos h1] at e
        refine .inl ⟨h1, fun hw hr => ?_⟩
        rw [hw, hr] at e
        cases e
      · rw [if_neg h1] at e
        by_cases h2 : (m, false) ∈ l
        · rw [if_pos h2, Bool.or_eq_false_iff] at e
          exact .inr ⟨h1, h2, by simpa using e.1, by simpa using e.2⟩
        · rw [if_neg h2] at e
          cases e
    have key : D (q ++ m :: r) → (m, true) ∈ l := by
      intro d
      rcases (hD _).mp d with d | d
      · exact (self2.2 d).2
      · have := c2 _ d
        rw [fd_D] at this
        rcases foll false this with h | h
        · exact h.1
        · cases h.2.2.1
    have key2 : T (q ++ m :: r) → (r = [] ∧ (m, false) ∈ l) ∨ (r ≠ [] ∧ (m, true) ∈ l) := by
      intro t
      rcases (hT _).mp t with t | t
      · exact .inl (self2.1 t)
      · have := c1 _ t
        rw [ff_D] at this
        rcases foll true this with h | h
        · exact .inr ⟨h.2 rfl, h.1⟩
        · exact .inl ⟨h.2.2.2, h.2.1⟩
    constructor
    · rintro (hr | d)
      · rcases h with t | d
        · rcases key2 t with k | k
          · exact absurd k.1 hr
          · exact k.2
        · exact key d
      · exact key d
    · intro hn
      rcases h with t | d
      · rcases key2 t with k | k
        · exact k.2
        · exact absurd (.inl k.1) hn
      · exact absurd (.inr d) hn
  | N k a g =>
    rcases g with ⟨n, rfl⟩ | rfl <;> trivial
theorem bars_fits {s s' : Lk × An} (h : SiOk s) (h' : SiOk s') : barsM s s' = true ↔ ¬ FitsP [s, s'] [] [] := by
  have hs := shape_of h
  have hs' := shape_of h'
  have hT := tm_two s s'
  have hD := dm_two s s'
  have main : Cross s s' → Cross s' s → s.1 ≠ s'.1 ∨ s = s' → FitsP [s, s'] [] [] := by
    intro c c' hk
    have dis : ∀ p, TM [s, s'] [] p → ¬ DM [s, s'] [] [] p := by
      intro p t d
      rcases (hT p).mp t with t | t <;> rcases (hD p).mp d with d | d
      · exact self1 hs t d
      · have := c.2 p d
        rw [txt_fd hs t] at this
        cases this
      · have := c'.2 p d
        rw [txt_fd hs' t] at this
        cases this
      · exact self1 hs' t d
    refine ⟨?_, fun p _ => dis p, ?_⟩
    · intro a ha b hb e
      rcases hk with hk | rfl
      · have ha' : a = s ∨ a = s' := by simpa using ha
        have hb' : b = s ∨ b = s' := by simpa using hb
        rcases ha' with ha' | ha' <;> rcases hb' with hb' | hb'
        · rw [ha', hb']
        · rw [ha', hb'] at e
          exact absurd e hk
        · rw [ha', hb'] at e
          exact absurd e.symm hk
        · rw [ha', hb']
      · have ea : a = s := by simpa using ha
        have eb : b = s := by simpa using hb
        rw [ea, eb]
    · intro a ha
      rcases List.mem_cons.mp ha with rfl | ha
      · exact fit_of hs hs' hT hD c dis
      · rw [List.mem_singleton.mp ha]
        exact fit_of hs' hs (fun p => (hT p).trans or_comm) (fun p => (hD p).trans or_comm) c' dis
  by_cases e : s.1 = s'.1
  · unfold barsM
    rw [if_pos e]
    by_cases e2 : s.2 = s'.2
    · have es : s = s' := Prod.ext e e2
      subst es
      have c : Cross s s := by
        constructor
        · intro p t
          cases q : ff s p with
          | false => rfl
          | true =>
            exfalso
            cases hs with
            | A q' g n => exact t
            | B q' z g n =>
              have e : p = q' := t
              rw [ff_B, e, ben_irr] at q
              cases q
            | C q' g n => exact t
            | D q' l g g2 n =>
              obtain ⟨m, hm, rfl⟩ := t
              rw [ff_D, lostP_in, if_neg (fun a => ent_uniq g a hm), if_pos hm] at q
              simp at q
            | N k a g => exact (need_N g p).1 t
        · intro p d
          cases q : fd s p with
          | false => rfl
          | true =>
            exfalso
            cases hs with
            | A q' g n =>
              rw [fd_A] at q
              cases q
            | B q' z g n =>
              rw [fd_B, Bool.or_eq_true, decide_eq_true_iff] at q
              have hp : p ≠ [] := by
                rcases q with rfl | q
                · exact g
                · rintro rfl
                  rw [ben_nil] at q
                  cases q
              rcases d with (d | d) | ⟨_, r, d | rfl | d, b⟩
              · exact hp d
              · exact d
              · have er : r = q' := d
                subst er
                rcases q with rfl | q
                · rw [ben_irr] at b
                  cases b
                · have := ben_tr b q
                  rw [ben_irr] at this
                  cases this
              · rw [ben_nil] at b
                cases b
              · exact d
            | C q' g n =>
              rcases d with (d | d) | ⟨_, r, d | rfl | d, b⟩
              · subst d
                rw [fd_root (.C q' g n)] at q
                cases q
              · exact d
              · exact d
              · rw [ben_nil] at b
                cases b
              · exact d
            | D q' l g g2 n =>
              rw [fd_D] at q
              cases b : ben p q' with
              | false =>
                rw [lostP_out b] at q
                cases q
              | true =>
                obtain ⟨m, r, rfl⟩ := ben_dest b
                rw [lostP_in, if_pos (self2.2 d).2] at q
                cases q
            | N k a g =>
              rw [(ff_N g p).2] at q
              cases q
      simp only [e2, decide_true, Bool.not_true, Bool.false_eq_true, false_iff, Classical.not_not]
      exact main c c (.inr rfl)
    · simp only [e2, decide_false, Bool.not_false, true_iff]
      rintro ⟨f, _⟩
      exact e2 (f s (by simp) s' (by simp) e)
  · unfold barsM
    rw [if_neg e]
    constructor
    · intro hb f
      obtain ⟨_, f2, f3⟩ := f
      have c := fits_cross hs hs' hT hD f2 (f3 s (by simp))
      have c' := fits_cross hs' hs (fun p => (hT p).trans or_comm) (fun p => (hD p).trans or_comm) f2 (f3 s' (by simp))
      rw [(cross_con hs hs').mpr c, (cross_con hs' hs).mpr c'] at hb
      cases hb
    · intro f
      cases e1 : denM s (con s') with
      | true => rfl
      | false =>
        cases e2 : denM s' (con s) with
        | true => rfl
        | false => exact (f (main ((cross_con hs hs').mp e1) ((cross_con hs' hs).mp e2) (.inl e))).elim
end K3

set_option maxHeartbeats 3900000
namespace K3
open PySem PySem.Spec PyProof.Rows L2 TL
open C8 (pss_cut tCut pe_gc)
open CB
inductive NoRow (H : Hp) : V → Prop
  | non : NoRow H .non
  | str (z : Str) : NoRow H (.str z)
  | int (i : Int) : NoRow H (.int i)
  | dct {a : Addr} {kvs : List (L2.Key × V)} (h : H a = some (.dK kvs)) : NoRow H (.ref a)
theorem NoRow.up {H H' : Hp} {x : V} (h : NoRow H x) (s : Same H H') : NoRow H' x := by
  cases h with
  | non => exact .non
  | str z => exact .str z
  | int i => exact .int i
  | dct h => exact .dct (s _ _ h)
def rLT2 : List V → Hp → VK → Prop := fun vs H Q => ∃ v tp, vs = [v, .ref tp] ∧ H tp = some (.tup [.ty "list", .ty "tuple"]) ∧ NoRow H v ∧ Q (.bl false) H
theorem isi_LT2 {X : Cx} : CallR X (.builtin "isinstance") rLT2 := by
  intro pins s σ H xs us Q I r h
  obtain ⟨v, tp, rfl, ht, hl, q⟩ := h
  have go : ∀ (n : String), TyX X.K H v (.type n) → PySem.W.kitAny X.K (.type n) [.type "list", .type "tuple"] = some false → wpAny (model X.prog X.w) X.A (call (.builtin "isinstance") us) (EP X pins σ Q) X.xe s := fun n t k =>
    call_isiT (X := X) pins s σ H _ us Q I r ⟨v, tp, _, .type n, [.type "list", .type "tuple"], false, rfl, ht, .cons (.ty "list") (.cons (.ty "tuple") .nil), t, k, q⟩
  cases hl with
  | non => exact go "NoneType" (.base .non) (kitLT (b := false) (c := false) (by decide +kernel) (by decide +kernel))
  | str z => exact go "str" (.base (.str z)) (kitLT (b := false) (c := false) (by decide +kernel) (by decide +kernel))
  | int i => exact go "int" (.base (.int i)) (kitLT (b := false) (c := false) (by decide +kernel) (by decide +kernel))
  | dct h => exact go "dict" (.base (.dK h)) (kitLT (b := false) (c := false) (by decide +kernel) (by decide +kernel))
def PathNo (z : Str) : Prop := ∃ ys, Txt.split z "/" = ys ∧ Sh z ∧ (∀ y ∈ ys, Sh y) ∧ ys.length < 1000000 ∧ (ys.all fun y => decide (IsNm y)) = false
inductive CanNot : Str → V → Prop
  | rd {z : Str} (h : PathNo z) : CanNot "read" (.str z)
  | ls0 : CanNot "list" .non
  | ls {z : Str} (h : PathNo z) (n : z ≠ "") : CanNot "list" (.str z)
  | se {z : Str} (h : ¬ IsNm z) (s : Sh z) : CanNot "setting" (.str z)
  | se5 (i : Int) : CanNot "setting" (.int i)
  | oth {a : Str} {b : V} (h1 : a ≠ "read") (h2 : a ≠ "list") (h3 : a ≠ "setting") : CanNot a b
inductive OddR : List V → Prop
  | zero : OddR []
  | one {z : Str} (h : z ≠ "tool") : OddR [.str z]
  | two {a : Str} {b : V} (h : CanNot a b) : OddR [.str a, b]
  | three (a b c : V) : OddR [a, b, c]
inductive OddL (H : Hp) : V → Prop
  | no {x : V} (h : NoRow H x) : OddL H x
  | row {x : V} {xs : List V} (h : RowAt H x xs) (o : OddR xs) : OddL H x
theorem OddL.up {H H' : Hp} {x : V} (h : OddL H x) (s : Same H H') : OddL H' x := by
  cases h with
  | no h => exact .no (h.up s)
  | row h o => exact .row (h.up s) o
def spRowO : Sp := fun vs H Q _ => ∃ v n, vs = [v, .int n] ∧ NoRow H v ∧ ∀ H', Same H H' → Q (.bl false) H'
def spRow2 : Sp := fun vs H Q E => spRow vs H Q E ∨ spRowO vs H Q E
def spIsNameO : Sp := fun vs H Q _ => ∃ i, vs = [.int i] ∧ Q (.bl false) H
def spIsPathO : Sp := fun vs H Q _ => ∃ x, vs = [x] ∧ (x = .non ∨ ∃ z, x = .str z ∧ PathNo z) ∧ ∀ H', Same H H' → Q (.bl false) H'
def spIsPlaceO : Sp := fun vs H Q _ => ∃ x, vs = [x] ∧ (x = .non ∨ ∃ z, x = .str z ∧ PathNo z ∧ z ≠ "") ∧ ∀ H', Same H H' → Q (.bl false) H'
def spCanLookO : Sp := fun vs H Q _ => ∃ a b, vs = [.str a, b] ∧ CanNot a b ∧ ∀ H', Same H H' → Q (.bl false) H'
def spAsLookO : Sp := fun vs H Q _ => ∃ x, vs = [x] ∧ OddL H x ∧ ∀ H', Same H H' → Q .non H'
section
variable {P : Program} {w : World} {K : PySem.W.Frag} {mg : Str → Option Value} {base : Heap}
theorem ok_rowO {f : Addr} {fd : FuncData} (F : Fun K "is_row" "is_row" sRow f fd) (T : TB mg) : FnOk P w K mg base CX0 1 f fd ["thing", "size"] spRowO := by
  refine F.ok scRow (fun vs H Q E h => ?_) (fun cdv A outer s H vs Q E hr h => ?_)
  · obtain ⟨v, n, rfl, _⟩ := h
    rfl
  · obtain ⟨v, n, rfl, hv, k⟩ := h
    refine ⟨_, pss_one (ps_ret (pe_and (pe_callB isi_LT2 (by rfl) T.isinstance (by decide +kernel) (pa_cons (pv 0) (pa_cons (pe_tup (pa_cons (pe_bltn (v := .ty "list") (by rfl) T.list (by decide +kernel) rfl) (pa_cons (pe_bltn (v := .ty "tuple") (by rfl) T.tuple (by decide +kernel) rfl) pa_nil))) pa_nil))) (pe_one (pe_cmpR op_eq (pe_callB call_len_row (by rfl) T.len PySem.boot_len (pa_cons (pv 0) pa_nil)) (pv 1) (nomark _))))), ?_⟩
    exact ⟨_, rfl, by show 2 ≤ sizeLine; decide, fun tp ht => ⟨v, tp, rfl, upd_same, hv.up (same_mk ht), _, rfl, iteF (k _ (same_mk ht))⟩⟩
theorem ok_isNameO {f : Addr} {fd : FuncData} (F : Fun K "is_name" "is_name" sIsName f fd) (T0 : TPk mg) : FnOk P w K mg base CX0 1 f fd ["thing"] spIsNameO := by
  have T := T0.b
  obtain ⟨t1, mLETTERS⟩ := T0.LETTERS
  obtain ⟨t2, mLONGEST⟩ := T0.LONGEST
  refine F.ok scIsName (fun vs H Q E h => ?_) (fun cdv A outer s H vs Q E hr h => ?_)
  · obtain ⟨z, rfl, _⟩ := h
    rfl
  · obtain ⟨i, rfl, k⟩ := h
    refine ⟨_, pss_cons (ps_if (PW.pt (pw_or (pt_not (pt_val (pe_callB call_isi (by rfl) T.isinstance (by decide +kernel) (pa_cons (pv 0) (pa_cons (pe_bltn (v := .ty "str") (by rfl) T.str (by decide +kernel) rfl) pa_nil))))) (pw_or1 (pt_not (pt_chain op_le op_le pe_int (pe_callB call_len_str (by rfl) T.len PySem.boot_len (pa_cons (pv 0) pa_nil)) (pe_glob (v := .int 8) rfl mLONGEST ⟨_, rfl⟩)))))) (pss_one (ps_ret pe_bl)) (pss_nil))
        (pss_one (ps_ret (pe_callB (cr_all rfl) (by rfl) T.all boot_all (pa_cons (pe_lc (own := [("letter", 1)]) (g := gName 1) (tt := tYes) rfl scIsName.nd (pi_str (pv 0)) (blkOk_by (own := [("letter", 1)]) (N := ["thing", "letter"]) (sc := defScope sIsName) (by decide +kernel)) (fun _ _ _ _ _ => (pg_name (i := 1) scIsName.nd rfl (Or.inl rfl))) (fun _ _ _ _ _ => pts_nil) (fun _ _ _ _ _ => (pe_cmpR op_in_sign (pv 1) (pe_glob (v := .str letters) rfl mLETTERS ⟨_, rfl⟩) (by rfl)))) pa_nil)))), ?_⟩
    exact ⟨_, rfl, _, _, .type "int", .type "str", false, rfl, .ty "str", .base (.int i), kit_ty (by decide +kernel), _, rfl, iteT k⟩
theorem ok_isPathO {f fN : Addr} {fd fdN : FuncData} (F : Fun K "is_path" "is_path" sIsPath f fd) (T0 : TPk mg) (aIsName : At K mg "is_name" fN fdN ["thing"]) (GIsName : FnOk P w K mg base CX0 1 fN fdN ["thing"] spIsName) : FnOk P w K mg base CX0 2 f fd ["thing"] spIsPathO := by
  have T := T0.b
  obtain ⟨t1, mSTROKE⟩ := T0.STROKE
  refine F.ok scIsPath (fun vs H Q E h => ?_) (fun cdv A outer s H vs Q E hr h => ?_)
  · obtain ⟨z, rfl, _⟩ := h
    rfl
  · obtain ⟨x, rfl, hx, k⟩ := h
    refine ⟨_, pss_one (ps_ret (pe_and (pe_callB call_isi (by rfl) T.isinstance (by decide +kernel) (pa_cons (pv 0) (pa_cons (pe_bltn (v := .ty "str") (by rfl) T.str (by decide +kernel) rfl) pa_nil))) (pe_one (pe_callB (cr_all rfl) (by rfl) T.all boot_all (pa_cons (pe_lc (own := [("part", 1)]) (g := gName 1) (tt := tYes) rfl scIsPath.nd (pi_list (pe_bm PySem.F.plainAttrs_str PySem.F.slot_str_split PySem.F.type_str_split mt_split (pv 0) (pa_cons (pe_glob (v := .str "/") rfl mSTROKE ⟨_, rfl⟩) pa_nil))) (blkOk_by (own := [("part", 1)]) (N := ["thing", "part"]) (sc := defScope sIsPath) (by decide +kernel)) (fun _ _ _ _ _ => (pg_name (i := 1) scIsPath.nd rfl (Or.inl rfl))) (fun _ _ _ _ _ => pts_nil) (fun _ _ _ _ _ => (pe_call GIsName (hr.mono (by decide)) rfl aIsName.m aIsName.k aIsName.b .nil pass0 (pa_cons (pv 1) pa_nil)))) pa_nil))))), ?_⟩
    rcases hx with rfl | ⟨z, rfl, ys, e1, hs, e2, e3, e4⟩
    · exact ⟨_, rfl, _, _, .type "NoneType", .type "str", false, rfl, .ty "str", .base .non, kit_ty (by decide +kernel), _, rfl, iteF (k H (Same.refl H))⟩
    refine ⟨_, rfl, _, _, .type "str", .type "str", true, rfl, .ty "str", .base (.str _), kit_ty (by decide +kernel), true, rfl, iteT ⟨_, rfl, rfl, z, "/", rfl, rfl, rfl, ?_, fun l hl' => ⟨l, rfl, ⟨_, SqL.of upd_same⟩, fun D hD => ?_⟩⟩⟩
    · have := hs
      unfold Sh at this
      exact Nat.le_trans (show z.length + 2 ≤ 1002 by omega) (by decide)
    · rw [e1] at hD ⊢
      have s1 : Same H (upd H l (.lst (ys.map V.str))) := same_mk hl'
      refine lc_mapL ys V.str (fun y => .bl (decide (IsNm y))) e3 hD (SqL.of upd_same) ?_ ?_
      · intro y hy H2 s2 Q1 k1
        exact ⟨_, rfl, y, rfl, e2 y hy, k1⟩
      · intro H' s' hD'
        refine all_of _ _ hD' ?_
        rw [e4]
        exact k H' (s1.trans s')
theorem ok_isPlaceO {f fN : Addr} {fd fdN : FuncData} (F : Fun K "is_place" "is_place" sIsPlace f fd) (T0 : TPk mg) (aIsPath : At K mg "is_path" fN fdN ["thing"]) (GIsPath : FnOk P w K mg base CX0 2 fN fdN ["thing"] spIsPathO) : FnOk P w K mg base CX0 3 f fd ["thing"] spIsPlaceO := by
  have T := T0.b
  obtain ⟨t1, mROOT⟩ := T0.ROOT
  refine F.ok scIsPlace (fun vs H Q E h => ?_) (fun cdv A outer s H vs Q E hr h => ?_)
  · obtain ⟨z, rfl, _⟩ := h
    rfl
  · obtain ⟨x, rfl, hx, k⟩ := h
    refine ⟨_, pss_one (ps_ret (pe_or (pe_call GIsPath (hr.mono (by decide)) rfl aIsPath.m aIsPath.k aIsPath.b .nil pass0 (pa_cons (pv 0) pa_nil)) (pe_one (pe_and (pe_callB call_isi (by rfl) T.isinstance (by decide +kernel) (pa_cons (pv 0) (pa_cons (pe_bltn (v := .ty "str") (by rfl) T.str (by decide +kernel) rfl) pa_nil))) (pe_one (pe_cmpR op_eq (pv 0) (pe_glob (v := .str "") rfl mROOT ⟨_, rfl⟩) (nomark _))))))), ?_⟩
    rcases hx with rfl | ⟨z, rfl, hz, nz⟩
    · exact ⟨_, rfl, _, rfl, .inl rfl, fun H1 s1 => ⟨_, rfl, iteF ⟨_, rfl, _, _, .type "NoneType", .type "str", false, rfl, .ty "str", .base .non, kit_ty (by decide +kernel), _, rfl, iteF (k H1 s1)⟩⟩⟩
    · refine ⟨_, rfl, _, rfl, .inr ⟨z, rfl, hz⟩, fun H1 s1 => ⟨_, rfl, iteF ⟨_, rfl, _, _, .type "str", .type "str", true, rfl, .ty "str", .base (.str _), kit_ty (by decide +kernel), _, rfl, iteT ⟨_, rfl, rfl, ?_⟩⟩⟩⟩
      rw [decide_eq_false (show ¬ V.str z = V.str "" from fun q => nz (V.str.inj q))]
      exact k H1 s1
theorem ok_canLookO {f fN fPh fPl : Addr} {fd fdN fdPh fdPl : FuncData} (F : Fun K "can_look" "can_look" sCanLook f fd) (T0 : TPk mg) (aIsName : At K mg "is_name" fN fdN ["thing"]) (aIsPath : At K mg "is_path" fPh fdPh ["thing"]) (aIsPlace : At K mg "is_place" fPl fdPl ["thing"])
    (GIsName : FnOk P w K mg base CX0 1 fN fdN ["thing"] spIsName) (GIsNameO : FnOk P w K mg base CX0 1 fN fdN ["thing"] spIsNameO) (GIsPath : FnOk P w K mg base CX0 2 fPh fdPh ["thing"] spIsPathO) (GIsPlace : FnOk P w K mg base CX0 3 fPl fdPl ["thing"] spIsPlaceO) : FnOk P w K mg base CX0 4 f fd ["word", "where"] spCanLookO := by
  have T := T0.b
  refine F.ok scCanLook (fun vs H Q E h => ?_) (fun cdv A outer s H vs Q E hr h => ?_)
  · obtain ⟨a, b, rfl, _⟩ := h
    rfl
  · obtain ⟨a, b, rfl, hk, q⟩ := h
    have e1 : ∀ a b : Str, decide (V.str a = V.str b) = decide (a = b) := fun a b => decide_eq_decide.mpr ⟨V.str.inj, fun q => by rw [q]⟩
    by_cases hi : ∃ i, b = .int i
    · obtain ⟨i, rfl⟩ := hi
      refine ⟨_, pss_cons (ps_if (pt_not (pt_val (pe_callB call_isi (by rfl) T.isinstance (by decide +kernel) (pa_cons (pv 0) (pa_cons (pe_bltn (v := .ty "str") (by rfl) T.str (by decide +kernel) rfl) pa_nil))))) (pss_one (ps_ret pe_bl)) (pss_nil))
            (pss_cons (ps_if (pt_cmpR op_eq (pv 0) pe_str (nomark _)) (pss_one (ps_ret (pe_call GIsPath (hr.mono (by decide)) rfl aIsPath.m aIsPath.k aIsPath.b .nil pass0 (pa_cons (pv 1) pa_nil)))) (pss_nil))
            (pss_cons (ps_if (pt_cmpR op_eq (pv 0) pe_str (nomark _)) (pss_one (ps_ret (pe_call GIsPlace (hr.mono (by decide)) rfl aIsPlace.m aIsPlace.k aIsPlace.b .nil pass0 (pa_cons (pv 1) pa_nil)))) (pss_nil))
            (pss_one (ps_ret (pe_and (pe_cmpR op_eq (pv 0) pe_str (nomark _)) (pe_one (pe_call GIsNameO (hr.mono (by decide)) rfl aIsName.m aIsName.k aIsName.b .nil pass0 (pa_cons (pv 1) pa_nil)))))))), ?_⟩
      refine ⟨_, rfl, _, _, .type "str", .type "str", true, rfl, .ty "str", .base (.str _), kit_ty (by decide +kernel), _, rfl, iteF ⟨_, rfl, rfl, _, rfl, ?_⟩⟩
      rw [e1]
      cases hk with
      | se5 => exact iteF ⟨_, rfl, rfl, _, rfl, iteF ⟨_, rfl, rfl, _, rfl, iteT ⟨_, rfl, _, rfl, q H (Same.refl H)⟩⟩⟩
      | oth h1 h2 h3 =>
        rw [decide_eq_false h1]
        refine iteF ⟨_, rfl, rfl, _, rfl, ?_⟩
        rw [e1, decide_eq_false h2]
        refine iteF ⟨_, rfl, rfl, _, rfl, ?_⟩
        rw [e1, decide_eq_false h3]
        exact iteF (q H (Same.refl H))
    · refine ⟨_, pss_cons (ps_if (pt_not (pt_val (pe_callB call_isi (by rfl) T.isinstance (by decide +kernel) (pa_cons (pv 0) (pa_cons (pe_bltn (v := .ty "str") (by rfl) T.str (by decide +kernel) rfl) pa_nil))))) (pss_one (ps_ret pe_bl)) (pss_nil))
            (pss_cons (ps_if (pt_cmpR op_eq (pv 0) pe_str (nomark _)) (pss_one (ps_ret (pe_call GIsPath (hr.mono (by decide)) rfl aIsPath.m aIsPath.k aIsPath.b .nil pass0 (pa_cons (pv 1) pa_nil)))) (pss_nil))
            (pss_cons (ps_if (pt_cmpR op_eq (pv 0) pe_str (nomark _)) (pss_one (ps_ret (pe_call GIsPlace (hr.mono (by decide)) rfl aIsPlace.m aIsPlace.k aIsPlace.b .nil pass0 (pa_cons (pv 1) pa_nil)))) (pss_nil))
            (pss_one (ps_ret (pe_and (pe_cmpR op_eq (pv 0) pe_str (nomark _)) (pe_one (pe_call GIsName (hr.mono (by decide)) rfl aIsName.m aIsName.k aIsName.b .nil pass0 (pa_cons (pv 1) pa_nil)))))))), ?_⟩
      refine ⟨_, rfl, _, _, .type "str", .type "str", true, rfl, .ty "str", .base (.str _), kit_ty (by decide +kernel), _, rfl, iteF ⟨_, rfl, rfl, _, rfl, ?_⟩⟩
      rw [e1]
      cases hk with
      | se5 i => exact absurd ⟨i, rfl⟩ hi
      | rd h => exact iteT ⟨_, rfl, _, rfl, .inr ⟨_, rfl, h⟩, q⟩
      | ls0 => exact iteF ⟨_, rfl, rfl, _, rfl, iteT ⟨_, rfl, _, rfl, .inl rfl, q⟩⟩
      | ls h n => exact iteF ⟨_, rfl, rfl, _, rfl, iteT ⟨_, rfl, _, rfl, .inr ⟨_, rfl, h, n⟩, q⟩⟩
      | @se z h s =>
        refine iteF ⟨_, rfl, rfl, _, rfl, iteF ⟨_, rfl, rfl, _, rfl, iteT ⟨_, rfl, z, rfl, s, fun H1 s1 => ?_⟩⟩⟩
        show Q (.bl (decide (IsNm z))) H1
        rw [decide_eq_false h]
        exact q H1 s1
      | oth h1 h2 h3 =>
        rw [decide_eq_false h1]
        refine iteF ⟨_, rfl, rfl, _, rfl, ?_⟩
        rw [e1, decide_eq_false h2]
        refine iteF ⟨_, rfl, rfl, _, rfl, ?_⟩
        rw [e1, decide_eq_false h3]
        exact iteF (q H (Same.refl H))
theorem ok_asLookO {f fR fC : Addr} {fd fdR fdC : FuncData} (F : Fun K "as_look" "as_look" sAsLook f fd) (T : TB mg) (aRow : At K mg "is_row" fR fdR ["thing", "size"]) (aCanLook : At K mg "can_look" fC fdC ["word", "where"])
    (GRow : FnOk P w K mg base CX0 1 fR fdR ["thing", "size"] spRow) (GRowO : FnOk P w K mg base CX0 1 fR fdR ["thing", "size"] spRowO) (GCanLook : FnOk P w K mg base CX0 4 fC fdC ["word", "where"] spCanLookO) : FnOk P w K mg base CX0 5 f fd ["thing"] spAsLookO := by
  refine F.ok scAsLook (fun vs H Q E h => ?_) (fun cdv A outer s H vs Q E hr h => ?_)
  · obtain ⟨v, rfl, _⟩ := h
    rfl
  · obtain ⟨v, rfl, hv, q⟩ := h
    cases hv with
    | no hn =>
      refine ⟨_, pss_cons (ps_if (PW.pt (pw_and (pt_val (pe_call GRowO (hr.mono (by decide)) rfl aRow.m aRow.k aRow.b .nil pass0 (pa_cons (pv 0) (pa_cons pe_int pa_nil)))) (pw_and (pt_val (pe_callB call_isi (by rfl) T.isinstance (by decide +kernel) (pa_cons (pe_ix ix_row (pv 0) pe_int (fun _ _ => rfl)) (pa_cons (pe_bltn (v := .ty "str") (by rfl) T.str (by decide +kernel) rfl) pa_nil)))) (pw_and1 (pt_cmpR op_eq (pe_ix ix_row (pv 0) pe_int (fun _ _ => rfl)) pe_str (nomark _)))))) (pss_one (ps_ret (pe_tup (pa_cons pe_str pa_nil)))) (pss_nil))
            (pss_cons (ps_if (PW.pt (pw_and (pt_val (pe_call GRowO (hr.mono (by decide)) rfl aRow.m aRow.k aRow.b .nil pass0 (pa_cons (pv 0) (pa_cons pe_int pa_nil)))) (pw_and1 (pt_val (pe_call GCanLook (hr.mono (by decide)) rfl aCanLook.m aCanLook.k aCanLook.b .nil pass0 (pa_cons (pe_ix ix_row (pv 0) pe_int (fun _ _ => rfl)) (pa_cons (pe_ix ix_row (pv 0) pe_int (fun _ _ => rfl)) pa_nil))))))) (pss_one (ps_ret (pe_tup (pa_cons (pe_ix ix_row (pv 0) pe_int (fun _ _ => rfl)) (pa_cons (pe_ix ix_row (pv 0) pe_int (fun _ _ => rfl)) pa_nil))))) (pss_nil))
            (pss_one (ps_ret pe_non))), ?_⟩
      exact ⟨_, rfl, v, 1, rfl, hn, fun H1 s1 => ⟨_, rfl, iteF ⟨_, rfl, v, 2, rfl, hn.up s1, fun H2 s2 => ⟨_, rfl, iteF (q H2 (s1.trans s2))⟩⟩⟩⟩
    | @row xs hv o =>
      refine ⟨_, pss_cons (ps_if (PW.pt (pw_and (pt_val (pe_call GRow (hr.mono (by decide)) rfl aRow.m aRow.k aRow.b .nil pass0 (pa_cons (pv 0) (pa_cons pe_int pa_nil)))) (pw_and (pt_val (pe_callB call_isi (by rfl) T.isinstance (by decide +kernel) (pa_cons (pe_ix ix_row (pv 0) pe_int (fun _ _ => rfl)) (pa_cons (pe_bltn (v := .ty "str") (by rfl) T.str (by decide +kernel) rfl) pa_nil)))) (pw_and1 (pt_cmpR op_eq (pe_ix ix_row (pv 0) pe_int (fun _ _ => rfl)) pe_str (nomark _)))))) (pss_one (ps_ret (pe_tup (pa_cons pe_str pa_nil)))) (pss_nil))
            (pss_cons (ps_if (PW.pt (pw_and (pt_val (pe_call GRow (hr.mono (by decide)) rfl aRow.m aRow.k aRow.b .nil pass0 (pa_cons (pv 0) (pa_cons pe_int pa_nil)))) (pw_and1 (pt_val (pe_call GCanLook (hr.mono (by decide)) rfl aCanLook.m aCanLook.k aCanLook.b .nil pass0 (pa_cons (pe_ix ix_row (pv 0) pe_int (fun _ _ => rfl)) (pa_cons (pe_ix ix_row (pv 0) pe_int (fun _ _ => rfl)) pa_nil))))))) (pss_one (ps_ret (pe_tup (pa_cons (pe_ix ix_row (pv 0) pe_int (fun _ _ => rfl)) (pa_cons (pe_ix ix_row (pv 0) pe_int (fun _ _ => rfl)) pa_nil))))) (pss_nil))
            (pss_one (ps_ret pe_non))), ?_⟩
      refine ⟨_, rfl, v, _, 1, rfl, hv, fun H1 s1 => ⟨_, rfl, ?_⟩⟩
      cases o with
      | zero => exact iteN (by decide) ⟨_, rfl, v, _, 2, rfl, hv.up s1, fun H2 s2 => ⟨_, rfl, iteN (by decide) (q H2 (s1.trans s2))⟩⟩
      | @one z h =>
        refine iteY rfl ⟨_, rfl, _, 0, _, hv.up s1, rfl, atI_nat (j := 0) rfl, _, _, .type "str", .type "str", true, rfl, .ty "str", .base (.str _), kit_ty (by decide +kernel), _, rfl, iteT ⟨_, rfl, _, 0, _, hv.up s1, rfl, atI_nat (j := 0) rfl, rfl, _, rfl, ?_⟩⟩
        rw [decide_eq_false (show ¬ V.str z = V.str "tool" from fun q => h (V.str.inj q))]
        exact iteF ⟨_, rfl, v, _, 2, rfl, hv.up s1, fun H2 s2 => ⟨_, rfl, iteN (by show ¬ ((1 : Nat) : Int) = 2; decide) (q H2 (s1.trans s2))⟩⟩
      | @two a b h =>
        refine iteN (by show ¬ ((2 : Nat) : Int) = 1; decide) ⟨_, rfl, v, _, 2, rfl, hv.up s1, fun H2 s2 => ⟨_, rfl, iteY rfl ?_⟩⟩
        have v2 := (hv.up s1).up s2
        exact ⟨_, rfl, _, 0, _, v2, rfl, atI_nat (j := 0) rfl, _, rfl, _, 1, _, v2, rfl, atI_nat (j := 1) rfl, a, b, rfl, h, fun H3 s3 => ⟨_, rfl, iteF (q H3 ((s1.trans s2).trans s3))⟩⟩
      | three a b c => exact iteN (by show ¬ ((3 : Nat) : Int) = 1; decide) ⟨_, rfl, v, _, 2, rfl, hv.up s1, fun H2 s2 => ⟨_, rfl, iteN (by show ¬ ((3 : Nat) : Int) = 2; decide) (q H2 (s1.trans s2))⟩⟩
end
end K3

set_option maxHeartbeats 3900000
namespace K3
open PySem PySem.Spec PyProof.Rows L2 TL
open C8 (pss_cut tCut pe_gc)
open CB XW
theorem FnOk_or {P : Program} {w : World} {K : PySem.W.Frag} {mg : Str → Option Value} {base : Heap} {CX : CXT} {k : Nat} {f : Addr} {fd : FuncData} {ps : List Str} {sp sp' : Sp} (F : FnOk P w K mg base CX k f fd ps sp) (G : FnOk P w K mg base CX k f fd ps sp') : FnOk P w K mg base CX k f fd ps (fun vs H Q E => sp vs H Q E ∨ sp' vs H Q E) :=
  ⟨fun vs H Q E h => h.elim (F.len vs H Q E) (G.len vs H Q E), fun A outer s H args us vs Q E hr he hb hv h => h.elim (F.run A outer s H args us vs Q E hr he hb hv) (G.run A outer s H args us vs Q E hr he hb hv)⟩
def EnB (x : V) (b : Bool) : Prop := (∃ z, x = .str z ∧ Sh z ∧ Sh (Txt.removesuffix z "/") ∧ b = decide (IsNm (Txt.removesuffix z "/"))) ∨ (b = false ∧ ∃ i, x = .int i)
inductive NoLs (H : Hp) (v : V) : Prop
  | row (h : NoRow H v)
  | bad {zs : List (V × Bool)} (h : RowAt H v (zs.map (·.1))) (e : ∀ z ∈ zs, EnB z.1 z.2) (a : zs.all (·.2) = false) (l : zs.length ≤ 1000)
  | asc {l : List (Str × Bool)} (h : RowAt H v (l.map entV)) (nm : ∀ e ∈ l, IsNm e.1) (ll : l.length ≤ 1000) (n : ¬ (l.map fun e : Str × Bool => e.1).Pairwise (fun a b : Str => a.cps.toList < b.cps.toList))
theorem NoLs.up {H H' : Hp} {v : V} (h : NoLs H v) (s : Same H H') : NoLs H' v := by
  cases h with
  | row h => exact .row (h.up s)
  | bad h e a l => exact .bad (h.up s) e a l
  | asc h nm ll n => exact .asc (h.up s) nm ll n
theorem chain_pw : ∀ {l : List Str}, (∀ (m : Nat) (a b : Str), l[m]? = some a → l[m + 1]? = some b → a.cps.toList < b.cps.toList) → l.Pairwise (fun a b : Str => a.cps.toList < b.cps.toList)
  | [], _ => .nil
  | [a], _ => List.pairwise_singleton _ _
  | a :: b :: r, h => by
    have ih := chain_pw (l := b :: r) fun m x y h1 h2 => h (m + 1) x y h1 h2
    have ab := h 0 a b rfl rfl
    refine .cons (fun x hx => ?_) ih
    rcases List.mem_cons.mp hx with rfl | hx
    · exact ab
    · exact List.lt_trans ab ((List.pairwise_cons.mp ih).1 x hx)
def ltAt (l : List (Str × Bool)) (m : Nat) : Bool := match l[m]?, l[m + 1]? with
  | some a, some b => decide (a.1.cps.toList < b.1.cps.toList)
  | _, _ => true
theorem ltAt_all {l : List (Str × Bool)} {n : Nat} (hn : l.length ≤ n + 1) (h : (List.range n).all (ltAt l) = true) : (l.map fun e : Str × Bool => e.1).Pairwise (fun a b : Str => a.cps.toList < b.cps.toList) := chain_pw fun m a b h1 h2 => by
  rw [List.getElem?_map] at h1 h2
  obtain ⟨x, hx, rfl⟩ := Option.map_eq_some_iff.mp h1
  obtain ⟨y, hy, rfl⟩ := Option.map_eq_some_iff.mp h2
  have lt := (List.getElem?_eq_some_iff.mp hy).1
  have := List.all_eq_true.mp h m (List.mem_range.mpr (by omega))
  unfold ltAt at this
  rw [hx, hy] at this
  exact of_decide_eq_true this
inductive AnNo (H : Hp) (v : V) : Lk → Prop
  | tlN (e : v = .non) : AnNo H v .tl
  | lsN (e : v = .non) : AnNo H v (.ls [])
  | lsB {p : List Str} (h : NoLs H v) (n : v ≠ .non) : AnNo H v (.ls p)
  | lsE {p : List Str} (h : RowAt H v []) (n : p ≠ []) : AnNo H v (.ls p)
  | rd {p : List Str} (h : NoText H v) (n : v ≠ .non) : AnNo H v (.rd p)
  | se {z : Str} (h : NoText H v) (n : v ≠ .non) : AnNo H v (.se z)
  | tl (h : NoText H v) (n : v ≠ .non) : AnNo H v .tl
theorem AnNo.up {H H' : Hp} {k : Lk} {v : V} (h : AnNo H v k) (s : Same H H') : AnNo H' v k := by
  cases h with
  | tlN e => exact .tlN e
  | lsN e => exact .lsN e
  | lsB h n => exact .lsB (h.up s) n
  | lsE h n => exact .lsE (h.up s) n
  | rd h n => exact .rd (h.up s) n
  | se h n => exact .se (h.up s) n
  | tl h n => exact .tl (h.up s) n
inductive SgNo (H : Hp) (v : V) : Prop
  | no (h : NoRow H v)
  | len {xs : List V} (h : RowAt H v xs) (n : xs.length ≠ 2)
  | look {x y : V} (h : RowAt H v [x, y]) (o : OddL H x)
  | ans {x y : V} {k : Lk} (h : RowAt H v [x, y]) (hx : RowAt H x (lkV k)) (ok : LkOk k) (n : AnNo H y k)
theorem SgNo.up {H H' : Hp} {v : V} (h : SgNo H v) (s : Same H H') : SgNo H' v := by
  cases h with
  | no h => exact .no (h.up s)
  | len h n => exact .len (h.up s) n
  | look h o => exact .look (h.up s) (o.up s)
  | ans h hx ok n => exact .ans (h.up s) (hx.up s) ok (n.up s)
def spIsEntryG : Sp := fun vs H Q _ => ∃ x b, vs = [x] ∧ EnB x b ∧ ∀ H', Same H H' → Q (.bl b) H'
def spIsListingO : Sp := fun vs H Q _ => ∃ v, vs = [v] ∧ NoLs H v ∧ ∀ H', Same H H' → Q (.bl false) H'
def spIsListing2 : Sp := fun vs H Q E => spIsListing vs H Q E ∨ spIsListingO vs H Q E
def spCanShowO : Sp := fun vs H Q _ => ∃ t va k, vs = [.ref t, va] ∧ H t = some (.tup (lkV k)) ∧ LkOk k ∧ AnNo H va k ∧ ∀ H', Same H H' → Q (.bl false) H'
def spAsLook2 : Sp := fun vs H Q E => spAsLook vs H Q E ∨ spAsLookO vs H Q E
def spAsSightO : Sp := fun vs H Q _ => ∃ v, vs = [v] ∧ SgNo H v ∧ ∀ H', Same H H' → Q .non H'
def spAsSight2 : Sp := fun vs H Q E => spAsSight vs H Q E ∨ spAsSightO vs H Q E
section
variable {P : Program} {w : World} {K : PySem.W.Frag} {mg : Str → Option Value} {base : Heap}
theorem ok_isEntryG {f fN : Addr} {fd fdN : FuncData} (F : Fun K "is_entry" "is_entry" sIsEntry f fd) (T0 : TPk mg) (aIsName : At K mg "is_name" fN fdN ["thing"]) (GIsName : FnOk P w K mg base CX0 1 fN fdN ["thing"] spIsName) : FnOk P w K mg base CX0 2 f fd ["thing"] spIsEntryG := by
  have T := T0.b
  obtain ⟨t1, mSTROKE⟩ := T0.STROKE
  refine F.ok scIsEntry (fun vs H Q E h => ?_) (fun cdv A outer s H vs Q E hr h => ?_)
  · obtain ⟨x, b, rfl, _⟩ := h
    rfl
  · obtain ⟨x, b, rfl, hx, k⟩ := h
    refine ⟨_, pss_one (ps_ret (pe_and (pe_callB call_isi (by rfl) T.isinstance (by decide +kernel) (pa_cons (pv 0) (pa_cons (pe_bltn (v := .ty "str") (by rfl) T.str (by decide +kernel) rfl) pa_nil))) (pe_one (pe_call GIsName (hr.mono (by decide)) rfl aIsName.m aIsName.k aIsName.b .nil pass0 (pa_cons (pe_bm PySem.F.plainAttrs_str PySem.F.slot_str_removesuffix PySem.F.type_str_removesuffix mt_removesuffix (pv 0) (pa_cons (pe_glob (v := .str "/") rfl mSTROKE ⟨_, rfl⟩) pa_nil)) pa_nil))))), ?_⟩
    rcases hx with ⟨z, rfl, hz, hr2, rfl⟩ | ⟨rfl, i, rfl⟩
    · exact ⟨_, rfl, _, _, .type "str", .type "str", true, rfl, .ty "str", .base (.str _), kit_ty (by decide +kernel), _, rfl, iteT ⟨_, rfl, rfl, z, "/", rfl, rfl, hz.line, _, rfl, hr2, fun H1 s1 => k H1 s1⟩⟩
    · exact ⟨_, rfl, _, _, .type "int", .type "str", false, rfl, .ty "str", .base (.int _), kit_ty (by decide +kernel), _, rfl, iteF (k H (Same.refl H))⟩
theorem ok_isListingO {f fE : Addr} {fd fdE : FuncData} (F : Fun K "is_listing" "is_listing" sIsListing f fd) (T0 : TPk mg) (aIsEntry : At K mg "is_entry" fE fdE ["thing"]) (GIsEntry : FnOk P w K mg base CX0 2 fE fdE ["thing"] spIsEntryG) : FnOk P w K mg base CX0 3 f fd ["thing"] spIsListingO := by
  have T := T0.b
  obtain ⟨t1, mSTROKE⟩ := T0.STROKE
  refine F.ok scIsListing (fun vs H Q E h => ?_) (fun cdv A outer s H vs Q E hr h => ?_)
  · obtain ⟨v, rfl, _⟩ := h
    rfl
  · obtain ⟨v, rfl, hv, k⟩ := h
    cases hv with
    | row hv =>
      refine ⟨_, pss_cons (ps_if (PW.pt (pw_or (pt_not (pt_val (pe_callB isi_LT2 (by rfl) T.isinstance (by decide +kernel) (pa_cons (pv 0) (pa_cons (pe_tup (pa_cons (pe_bltn (v := .ty "list") (by rfl) T.list (by decide +kernel) rfl) (pa_cons (pe_bltn (v := .ty "tuple") (by rfl) T.tuple (by decide +kernel) rfl) pa_nil))) pa_nil))))) (pw_or1 (pt_not (pt_val (pe_callB (cr_all rfl) (by rfl) T.all boot_all (pa_cons (pe_lc (own := [("entry", 2)]) (g := gName 2) (tt := tYes) rfl scIsListing.nd (pi_seqv (pv 0)) (blkOk_by (own := [("entry", 2)]) (N := ["thing", "names", "entry", "one", "other"]) (sc := defScope sIsListing) (by decide +kernel)) (fun _ _ _ _ _ => (pg_name (i := 2) scIsListing.nd rfl (Or.inl rfl))) (fun _ _ _ _ _ => pts_nil) (fun _ _ _ _ _ => (by exact (pe_call GIsEntry (hr.mono (by decide)) rfl aIsEntry.m aIsEntry.k aIsEntry.b .nil pass0 (pa_cons (pv 2) pa_nil))))) pa_nil))))))) (pss_one (ps_ret pe_bl)) (pss_nil))
              (pss_cons (ps_setLc (i := 1) (own := [("entry", 2)]) (g := gName 2) (tt := tYes) rfl scIsListing.nd rfl rfl (sw_true rfl rfl rfl (by decide +kernel)) (pi_seqv (pv 0)) (blkOk_by (own := [("entry", 2)]) (N := ["thing", "names", "entry", "one", "other"]) (sc := defScope sIsListing) (by decide +kernel)) (fun _ _ _ _ _ => (pg_name (i := 2) scIsListing.nd rfl (Or.inl rfl))) (fun _ _ _ _ _ => pts_nil) (fun _ _ _ _ _ => (by exact (pe_bmK K rfl PySem.F.plainAttrs_str PySem.F.slot_str_removesuffix PySem.F.type_str_removesuffix mt_removesuffix (pv 2) (pa_cons (pe_glob (v := .str "/") rfl mSTROKE ⟨_, rfl⟩) pa_nil)))))
              (pss_one (ps_ret (pe_callB (cr_all rfl) (by rfl) T.all boot_all (pa_cons (pe_lc (own := [("one", 3), ("other", 4)]) (g := gTup K 2 (gCons (gName 3) (gCons (gName 4) gNil))) (tt := tYes) rfl scIsListing.nd (pi_zip (by rfl) T.zip (pa_cons (pv 1) (pa_cons (pe_slice sl_list (pv 1) (po_some pe_int) po_none) pa_nil))) (blkOk_by (own := [("one", 3), ("other", 4)]) (N := ["thing", "names", "entry", "one", "other"]) (sc := defScope sIsListing) (by decide +kernel)) (fun _ _ _ _ _ => (pg_tupK (K0 := K) rfl rfl (pgs_cons (pg_name (i := 3) scIsListing.nd rfl (Or.inl rfl)) (pgs_cons (pg_name (i := 4) scIsListing.nd rfl (Or.inl rfl)) pgs_nil)))) (fun _ _ _ _ _ => pts_nil) (fun _ _ _ _ _ => (by exact (pe_cmpR op_lt_str (pv 3) (pv 4) (nomark _))))) pa_nil))))), ?_⟩
      exact ⟨_, rfl, by show 2 ≤ sizeLine; decide, fun tp ht => ⟨v, tp, rfl, upd_same, hv.up (same_mk ht), _, rfl, iteT (k _ (same_mk ht))⟩⟩
    | @bad zs hv he ha hl =>
      refine ⟨_, pss_cons (ps_if (PW.pt (pw_or (pt_not (pt_val (pe_callB isi_LT (by rfl) T.isinstance (by decide +kernel) (pa_cons (pv 0) (pa_cons (pe_tup (pa_cons (pe_bltn (v := .ty "list") (by rfl) T.list (by decide +kernel) rfl) (pa_cons (pe_bltn (v := .ty "tuple") (by rfl) T.tuple (by decide +kernel) rfl) pa_nil))) pa_nil))))) (pw_or1 (pt_not (pt_val (pe_callB (cr_all rfl) (by rfl) T.all boot_all (pa_cons (pe_lc (own := [("entry", 2)]) (g := gName 2) (tt := tYes) rfl scIsListing.nd (pi_seqv (pv 0)) (blkOk_by (own := [("entry", 2)]) (N := ["thing", "names", "entry", "one", "other"]) (sc := defScope sIsListing) (by decide +kernel)) (fun _ _ _ _ _ => (pg_name (i := 2) scIsListing.nd rfl (Or.inl rfl))) (fun _ _ _ _ _ => pts_nil) (fun _ _ _ _ _ => (by exact (pe_call GIsEntry (hr.mono (by decide)) rfl aIsEntry.m aIsEntry.k aIsEntry.b .nil pass0 (pa_cons (pv 2) pa_nil))))) pa_nil))))))) (pss_one (ps_ret pe_bl)) (pss_nil))
              (pss_cons (ps_setLc (i := 1) (own := [("entry", 2)]) (g := gName 2) (tt := tYes) rfl scIsListing.nd rfl rfl (sw_true rfl rfl rfl (by decide +kernel)) (pi_seqv (pv 0)) (blkOk_by (own := [("entry", 2)]) (N := ["thing", "names", "entry", "one", "other"]) (sc := defScope sIsListing) (by decide +kernel)) (fun _ _ _ _ _ => (pg_name (i := 2) scIsListing.nd rfl (Or.inl rfl))) (fun _ _ _ _ _ => pts_nil) (fun _ _ _ _ _ => (by exact (pe_bmK K rfl PySem.F.plainAttrs_str PySem.F.slot_str_removesuffix PySem.F.type_str_removesuffix mt_removesuffix (pv 2) (pa_cons (pe_glob (v := .str "/") rfl mSTROKE ⟨_, rfl⟩) pa_nil)))))
              (pss_one (ps_ret (pe_callB (cr_all rfl) (by rfl) T.all boot_all (pa_cons (pe_lc (own := [("one", 3), ("other", 4)]) (g := gTup K 2 (gCons (gName 3) (gCons (gName 4) gNil))) (tt := tYes) rfl scIsListing.nd (pi_zip (by rfl) T.zip (pa_cons (pv 1) (pa_cons (pe_slice sl_list (pv 1) (po_some pe_int) po_none) pa_nil))) (blkOk_by (own := [("one", 3), ("other", 4)]) (N := ["thing", "names", "entry", "one", "other"]) (sc := defScope sIsListing) (by decide +kernel)) (fun _ _ _ _ _ => (pg_tupK (K0 := K) rfl rfl (pgs_cons (pg_name (i := 3) scIsListing.nd rfl (Or.inl rfl)) (pgs_cons (pg_name (i := 4) scIsListing.nd rfl (Or.inl rfl)) pgs_nil)))) (fun _ _ _ _ _ => pts_nil) (fun _ _ _ _ _ => (by exact (pe_cmpR op_lt_str (pv 3) (pv 4) (nomark _))))) pa_nil))))), ?_⟩
      have hs : zs.length < 1000000 := Nat.lt_of_le_of_lt hl (by decide)
      refine ⟨_, rfl, by show 2 ≤ sizeLine; decide, fun tp ht => ⟨v, tp, true, rfl, upd_same, .inl ⟨rfl, _, hv.up (same_mk ht)⟩, _, rfl, iteF ?_⟩⟩
      refine all_row zs (·.1) (·.2) rfl (hv.up (same_mk ht)) hs ?_ ?_
      · intro e he2 H2 s2 Q1 k1
        exact ⟨_, rfl, e.1, e.2, rfl, he e he2, fun H3 s3 => k1 H3 s3⟩
      intro H1 s1
      rw [ha]
      exact ⟨_, rfl, iteT (k _ ((same_mk ht).trans s1))⟩
    | @asc l hv nm ll n =>
      refine ⟨_, pss_cons (ps_if (PW.pt (pw_or (pt_not (pt_val (pe_callB isi_LT (by rfl) T.isinstance (by decide +kernel) (pa_cons (pv 0) (pa_cons (pe_tup (pa_cons (pe_bltn (v := .ty "list") (by rfl) T.list (by decide +kernel) rfl) (pa_cons (pe_bltn (v := .ty "tuple") (by rfl) T.tuple (by decide +kernel) rfl) pa_nil))) pa_nil))))) (pw_or1 (pt_not (pt_val (pe_callB (cr_all rfl) (by rfl) T.all boot_all (pa_cons (pe_lc (own := [("entry", 2)]) (g := gName 2) (tt := tYes) rfl scIsListing.nd (pi_seqv (pv 0)) (blkOk_by (own := [("entry", 2)]) (N := ["thing", "names", "entry", "one", "other"]) (sc := defScope sIsListing) (by decide +kernel)) (fun _ _ _ _ _ => (pg_name (i := 2) scIsListing.nd rfl (Or.inl rfl))) (fun _ _ _ _ _ => pts_nil) (fun _ _ _ _ _ => (by exact (pe_call GIsEntry (hr.mono (by decide)) rfl aIsEntry.m aIsEntry.k aIsEntry.b .nil pass0 (pa_cons (pv 2) pa_nil))))) pa_nil))))))) (pss_one (ps_ret pe_bl)) (pss_nil))
              (pss_cons (ps_setLc (i := 1) (own := [("entry", 2)]) (g := gName 2) (tt := tYes) rfl scIsListing.nd rfl rfl (sw_true rfl rfl rfl (by decide +kernel)) (pi_seqv (pv 0)) (blkOk_by (own := [("entry", 2)]) (N := ["thing", "names", "entry", "one", "other"]) (sc := defScope sIsListing) (by decide +kernel)) (fun _ _ _ _ _ => (pg_name (i := 2) scIsListing.nd rfl (Or.inl rfl))) (fun _ _ _ _ _ => pts_nil) (fun _ _ _ _ _ => (by exact (pe_bmK K rfl PySem.F.plainAttrs_str PySem.F.slot_str_removesuffix PySem.F.type_str_removesuffix mt_removesuffix (pv 2) (pa_cons (pe_glob (v := .str "/") rfl mSTROKE ⟨_, rfl⟩) pa_nil)))))
              (pss_one (ps_ret (pe_callB (cr_all rfl) (by rfl) T.all boot_all (pa_cons (pe_lc (own := [("one", 3), ("other", 4)]) (g := gTup K 2 (gCons (gName 3) (gCons (gName 4) gNil))) (tt := tYes) rfl scIsListing.nd (pi_zip (by rfl) T.zip (pa_cons (pv 1) (pa_cons (pe_slice sl_list (pv 1) (po_some pe_int) po_none) pa_nil))) (blkOk_by (own := [("one", 3), ("other", 4)]) (N := ["thing", "names", "entry", "one", "other"]) (sc := defScope sIsListing) (by decide +kernel)) (fun _ _ _ _ _ => (pg_tupK (K0 := K) rfl rfl (pgs_cons (pg_name (i := 3) scIsListing.nd rfl (Or.inl rfl)) (pgs_cons (pg_name (i := 4) scIsListing.nd rfl (Or.inl rfl)) pgs_nil)))) (fun _ _ _ _ _ => pts_nil) (fun _ _ _ _ _ => (by exact (pe_cmpR op_lt_str (pv 3) (pv 4) (nomark _))))) pa_nil))))), ?_⟩
      have hs : l.length < 1000000 := Nat.lt_of_le_of_lt ll (by decide)
      have rm : ∀ e ∈ l, (ent e.1 e.2).length ≤ 9 := fun e he => by
        have h8 := (nm e he).2.1
        rw [len_tl, tl_ent, List.length_append, ← len_tl]
        cases e.2 <;> simp <;> omega
      refine ⟨_, rfl, by show 2 ≤ sizeLine; decide, fun tp ht => ⟨v, tp, true, rfl, upd_same, .inl ⟨rfl, _, hv.up (same_mk ht)⟩, _, rfl, iteF ?_⟩⟩
      refine all_row l entV (fun _ => true) rfl (hv.up (same_mk ht)) hs ?_ ?_
      · intro e he H2 s2 Q1 k1
        refine ⟨_, rfl, _, true, rfl, .inl ⟨_, rfl, Nat.le_trans (rm e he) (by decide), ?_, ?_⟩, fun H3 s3 => k1 H3 s3⟩
        · rw [rms_ent (nm e he)]
          exact nm_sh (nm e he)
        · rw [rms_ent (nm e he), decide_eq_true (nm e he)]
      intro H1 s1
      rw [show (l.all fun _ => true) = true from List.all_eq_true.mpr fun _ _ => rfl]
      refine ⟨_, rfl, iteF ?_⟩
      have sa := (same_mk ht).trans s1
      refine set_row l entV (fun e => .str e.1) rfl (hv.up sa) hs ?_ ?_
      · intro e he H2 s2 Q1 k1
        refine ⟨_, rfl, rfl, ent e.1 e.2, "/", rfl, rfl, ?_, ?_⟩
        · exact Nat.le_trans (rm e he) (by decide)
        · rw [rms_ent (nm e he)]
          exact k1 H2 (Same.refl H2)
      intro D H2 s2 hD hD2
      refine ⟨_, rfl, _, rfl, 1, rfl, D, _, rfl, SqL.of hD2, fun p hp => ?_⟩
      have hD3 := same_mk (o := .lst (cutV (l.map fun e => V.str e.1) (some 1) none)) hp _ _ hD2
      refine ⟨D, p, _, _, rfl, SqL.of hD3, SqL.of upd_same, fun D2 hD2' => ?_⟩
      rw [cut_1] at hD2' ⊢
      rw [cut_1] at hD3
      have ln : min (l.map fun e => V.str e.1).length ((l.map fun e => V.str e.1).drop 1).length = l.length - 1 := by
        rw [List.length_drop, List.length_map]
        omega
      refine lcW2 (walk_zip rfl) (by decide) ((List.range (l.length - 1)).map fun m => V.bl (ltAt l m)) (by rw [List.length_map, List.length_range, ln]) (by rw [ln]; omega) hD2' (fun H' s' => ⟨s'.seq (SqL.of hD3), s'.seq (SqL.of upd_same)⟩) ?_ ?_
      · intro m x x' y H4 hy ex ex' s4 Q1 k1
        obtain ⟨e1, he1, rfl⟩ : ∃ e, l[m]? = some e ∧ x = .str e.1 := by
          rw [List.getElem?_map] at ex
          cases q : l[m]? with
          | none => rw [q] at ex; cases ex
          | some e => rw [q] at ex; cases ex; exact ⟨e, rfl, rfl⟩
        obtain ⟨e2, he2, rfl⟩ : ∃ e, l[m + 1]? = some e ∧ x' = .str e.1 := by
          rw [List.getElem?_drop, List.getElem?_map, Nat.add_comm] at ex'
          cases q : l[m + 1]? with
          | none => rw [q] at ex'; cases ex'
          | some e => rw [q] at ex'; cases ex'; exact ⟨e, rfl, rfl⟩
        have yt : y = .bl (decide (e1.1.cps.toList < e2.1.cps.toList)) := by
          rw [List.getElem?_map] at hy
          obtain ⟨m2, hm2, rfl⟩ := Option.map_eq_some_iff.mp hy
          obtain ⟨lt, em⟩ := List.getElem?_eq_some_iff.mp hm2
          rw [List.getElem_range] at em
          subst em
          unfold ltAt
          rw [he1, he2]
        subst yt
        exact ⟨_, rfl, _, rfl, e1.1, e2.1, rfl, rfl, k1 H4 (Same.refl H4)⟩
      · intro H5 s5 hD5
        refine all_of (List.range (l.length - 1)) (ltAt l) hD5 ?_
        have nf : (List.range (l.length - 1)).all (ltAt l) = false := by
          rw [← Bool.not_eq_true]
          exact fun z => n (ltAt_all (by omega) z)
        rw [nf]
        exact k H5 ((sa.trans s2).trans ((same_mk hp).trans s5))
theorem ok_canShowO {f fL : Addr} {fd fdL : FuncData} (F : Fun K "can_show" "can_show" sCanShow f fd) (T0 : TPk mg) (aIsListing : At K mg "is_listing" fL fdL ["thing"]) (GIsListing : FnOk P w K mg base CX0 3 fL fdL ["thing"] spIsListing2) : FnOk P w K mg base CX0 4 f fd ["look", "answer"] spCanShowO := by
  have T := T0.b
  obtain ⟨t1, mROOT⟩ := T0.ROOT
  refine F.ok scCanShow (fun vs H Q E h => ?_) (fun cdv A outer s H vs Q E hr h => ?_)
  · obtain ⟨t, va, k, rfl, _⟩ := h
    rfl
  · have hu := hr.units
    obtain ⟨t, va, k, rfl, ht, hk, n, q⟩ := h
    refine ⟨_, pss_cons (ps_set (i := 2) scCanShow.nd rfl (Or.inl rfl) (pe_ix ix_tup (pv 0) pe_int (fun _ _ => rfl)))
            (pss_cons (ps_if (pt_cmp (pc_isN (pv 1))) (pss_one (ps_ret (pe_and (pe_cmpR op_ne (pv 2) pe_str (nomark _)) (pe_one (pe_cmpR (op_neD hu) (pv 0) (pe_tup (pa_cons pe_str (pa_cons (pe_glob (v := .str "") rfl mROOT ⟨_, rfl⟩) pa_nil))) (nomark _)))))) (pss_nil))
            (pss_cons (ps_if (pt_cmpR op_eq (pv 2) pe_str (nomark _)) (pss_one (ps_ret (pe_and (pe_call GIsListing (hr.mono (by decide)) rfl aIsListing.m aIsListing.k aIsListing.b .nil pass0 (pa_cons (pv 1) pa_nil)) (pe_one (pe_or (pe_cmpR op_gt (pe_callB call_len_row (by rfl) T.len PySem.boot_len (pa_cons (pv 1) pa_nil)) pe_int (nomark _)) (pe_one (pe_cmpR op_eq (pe_ix ix_tup (pv 0) pe_int (fun _ _ => rfl)) (pe_glob (v := .str "") rfl mROOT ⟨_, rfl⟩) (nomark _)))))))) (pss_nil))
            (pss_one (ps_ret (pe_callB call_isi (by rfl) T.isinstance (by decide +kernel) (pa_cons (pv 1) (pa_cons (pe_bltn (v := .ty "str") (by rfl) T.str (by decide +kernel) rfl) pa_nil))))))), ?_⟩
    have q0 := q H (Same.refl H)
    have notext : ∀ {z : Str}, NoText H va → va ≠ .non → z ≠ "list" → ∀ {R : VK}, R (.bl false) H → True := fun _ _ _ _ _ => trivial
    have e1 : ∀ a b : Str, decide (V.str a = V.str b) = decide (a = b) := fun a b => decide_eq_decide.mpr ⟨V.str.inj, fun q => by rw [q]⟩
    cases n with
    | tlN e =>
      subst e
      exact ⟨_, rfl, t, _, 0, _, rfl, rfl, SqT.of ht, atI_nat (j := 0) rfl, _, rfl, _, rfl, iteT ⟨_, rfl, rfl, _, rfl, iteF q0⟩⟩
    | lsN e =>
      subst e
      refine ⟨_, rfl, t, _, 0, _, rfl, rfl, SqT.of ht, atI_nat (j := 0) rfl, _, rfl, _, rfl, iteT ⟨_, rfl, rfl, _, rfl, iteT ⟨_, rfl, by show 2 ≤ sizeLine; decide, fun p hp => ?_⟩⟩⟩
      have s1 := same_mk (o := .tup [.str "list", .str ""]) hp
      refine ⟨strD ["list", ""], strD ["list", ""], .tup (SqT.of (s1 _ _ ht)) (dp_strs ["list", ""]), .tup (SqT.of upd_same) (dp_strs ["list", ""]), shaped_strs _ (by decide +kernel), shaped_strs _ (by decide +kernel), ?_⟩
      rw [eqv_str2]
      exact q _ s1
    | @lsB p h n =>
      exact ⟨_, rfl, t, _, 0, _, rfl, rfl, SqT.of ht, atI_nat (j := 0) rfl, _, rfl, _, rfl, iteN n ⟨_, rfl, rfl, _, rfl, iteY rfl ⟨_, rfl, .inr ⟨va, rfl, h, fun H1 s1 => ⟨_, rfl, iteF (q H1 s1)⟩⟩⟩⟩⟩
    | @lsE p h n =>
      have nn : va ≠ .non := fun e => by
        obtain ⟨a, e2, _⟩ := h
        rw [e] at e2
        cases e2
      refine ⟨_, rfl, t, _, 0, _, rfl, rfl, SqT.of ht, atI_nat (j := 0) rfl, _, rfl, _, rfl, iteN nn ⟨_, rfl, rfl, _, rfl, iteY rfl ⟨_, rfl, .inl ⟨va, [], rfl, h, ⟨(fun e he => by cases he), .nil, Nat.zero_le _⟩, fun H1 s1 => ⟨_, rfl, iteT ⟨_, rfl, va, [], rfl, h.up s1, _, _, rfl, rfl, _, rfl, iteN (by decide) ?_⟩⟩⟩⟩⟩⟩
      refine ⟨_, rfl, t, _, 1, _, rfl, rfl, SqT.of (s1 _ _ ht), atI_nat (j := 1) rfl, rfl, ?_⟩
      rw [e1, decide_eq_false (js_ne hk.1 n)]
      exact q H1 s1
    | @rd p h n =>
      obtain ⟨ty, hty, hk2⟩ := h.ty (K := K)
      exact ⟨_, rfl, t, _, 0, _, rfl, rfl, SqT.of ht, atI_nat (j := 0) rfl, _, rfl, _, rfl, iteN n ⟨_, rfl, rfl, _, rfl, iteN (by decide +kernel) ⟨_, rfl, _, _, .type ty, .type "str", false, rfl, .ty "str", hty, hk2, q0⟩⟩⟩
    | @se z h n =>
      obtain ⟨ty, hty, hk2⟩ := h.ty (K := K)
      exact ⟨_, rfl, t, _, 0, _, rfl, rfl, SqT.of ht, atI_nat (j := 0) rfl, _, rfl, _, rfl, iteN n ⟨_, rfl, rfl, _, rfl, iteN (by decide +kernel) ⟨_, rfl, _, _, .type ty, .type "str", false, rfl, .ty "str", hty, hk2, q0⟩⟩⟩
    | tl h n =>
      obtain ⟨ty, hty, hk2⟩ := h.ty (K := K)
      exact ⟨_, rfl, t, _, 0, _, rfl, rfl, SqT.of ht, atI_nat (j := 0) rfl, _, rfl, _, rfl, iteN n ⟨_, rfl, rfl, _, rfl, iteN (by decide +kernel) ⟨_, rfl, _, _, .type ty, .type "str", false, rfl, .ty "str", hty, hk2, q0⟩⟩⟩
theorem ok_asSightO {f fR fL fS : Addr} {fd fdR fdL fdS : FuncData} (F : Fun K "as_sight" "as_sight" sAsSight f fd) (T : TB mg) (aRow : At K mg "is_row" fR fdR ["thing", "size"]) (aAsLook : At K mg "as_look" fL fdL ["thing"]) (aCanShow : At K mg "can_show" fS fdS ["look", "answer"])
    (GRow : FnOk P w K mg base CX0 1 fR fdR ["thing", "size"] spRow2) (GAsLook : FnOk P w K mg base CX0 5 fL fdL ["thing"] spAsLook2) (GCanShow : FnOk P w K mg base CX0 4 fS fdS ["look", "answer"] spCanShowO) : FnOk P w K mg base CX0 6 f fd ["thing"] spAsSightO := by
  refine F.ok scAsSight (fun vs H Q E h => ?_) (fun cdv A outer s H vs Q E hr h => ?_)
  · obtain ⟨v, rfl, _⟩ := h
    rfl
  · obtain ⟨v, rfl, hv, q⟩ := h
    refine ⟨_, pss_cons (ps_if (pt_not (pt_val (pe_call GRow (hr.mono (by decide)) rfl aRow.m aRow.k aRow.b .nil pass0 (pa_cons (pv 0) (pa_cons pe_int pa_nil))))) (pss_one (ps_ret pe_non)) (pss_nil))
            (pss_cons (ps_set (i := 1) scAsSight.nd rfl (Or.inl rfl) (pe_call GAsLook (hr.mono (by decide)) rfl aAsLook.m aAsLook.k aAsLook.b .nil pass0 (pa_cons (pe_ix ix_row (pv 0) pe_int (fun _ _ => rfl)) pa_nil)))
            (pss_cons (ps_if (PW.pt (pw_or (pt_cmp (pc_isN (pv 1))) (pw_or1 (pt_not (pt_val (pe_call GCanShow (hr.mono (by decide)) rfl aCanShow.m aCanShow.k aCanShow.b .nil pass0 (pa_cons (pv 1) (pa_cons (pe_ix ix_row (pv 0) pe_int (fun _ _ => rfl)) pa_nil)))))))) (pss_one (ps_ret pe_non)) (pss_nil))
            (pss_cons (ps_if (pt_val (pe_callB isi_LT (by rfl) T.isinstance (by decide +kernel) (pa_cons (pe_ix ix_row (pv 0) pe_int (fun _ _ => rfl)) (pa_cons (pe_tup (pa_cons (pe_bltn (v := .ty "list") (by rfl) T.list (by decide +kernel) rfl) (pa_cons (pe_bltn (v := .ty "tuple") (by rfl) T.tuple (by decide +kernel) rfl) pa_nil))) pa_nil)))) (pss_one (ps_ret (pe_tup (pa_cons (pv 1) (pa_cons (pe_callTy call_tup_row (by rfl) T.tuple (by decide +kernel) (pa_cons (pe_ix ix_row (pv 0) pe_int (fun _ _ => rfl)) pa_nil)) pa_nil))))) (pss_nil))
            (pss_one (ps_ret (pe_tup (pa_cons (pv 1) (pa_cons (pe_ix ix_row (pv 0) pe_int (fun _ _ => rfl)) pa_nil)))))))), ?_⟩
    cases hv with
    | no h => exact ⟨_, rfl, .inr ⟨v, 2, rfl, h, fun H1 s1 => ⟨_, rfl, iteT (q H1 s1)⟩⟩⟩
    | @len xs h n =>
      refine ⟨_, rfl, .inl ⟨v, xs, 2, rfl, h, fun H1 s1 => ⟨_, rfl, ?_⟩⟩⟩
      rw [decide_eq_false (show ¬ (xs.length : Int) = 2 from fun e => n (by omega))]
      exact iteT (q H1 s1)
    | @look x y h o =>
      exact ⟨_, rfl, .inl ⟨v, _, 2, rfl, h, fun H1 s1 => ⟨_, rfl, iteF ⟨_, rfl, _, 0, _, h.up s1, rfl, atI_nat (j := 0) rfl, .inr ⟨x, rfl, o.up s1, fun H2 s2 => ⟨_, rfl, _, rfl, iteT (q H2 (s1.trans s2))⟩⟩⟩⟩⟩⟩
    | @ans x y k h hx ok n =>
      refine ⟨_, rfl, .inl ⟨v, _, 2, rfl, h, fun H1 s1 => ⟨_, rfl, iteF ⟨_, rfl, _, 0, _, h.up s1, rfl, atI_nat (j := 0) rfl, .inl ⟨x, k, rfl, hx.up s1, ok, fun t H2 s2 ht => ?_⟩⟩⟩⟩⟩
      have s12 := s1.trans s2
      exact ⟨_, rfl, _, rfl, iteN (by intro z; cases z) ⟨_, rfl, _, rfl, _, 1, _, h.up s12, rfl, atI_nat (j := 1) rfl, t, y, k, rfl, ht, ok, n.up s12, fun H3 s3 => ⟨_, rfl, iteT (q H3 (s12.trans s3))⟩⟩⟩
end
end K3

set_option maxHeartbeats 3900000
namespace ET
open PySem PySem.Spec PyProof.Rows L2
abbrev itObj (l : Addr) : Obj := { cls := .type "tuple_iterator", data := .fields #[.ref l, .int 0 0] }
abbrev enObj (it : Addr) : Obj := { cls := .type "enumerate", data := .fields #[.none, .bool false, .ref it, rawInt 0, .none, .none] }
theorem meets_enumT (l : Addr) (its : Array Value) (n : Nat) (dct : Option Addr) (sl : Array (Option Value)) :
    Meets (Builtin.«enumerate.__new__» ⟨[.type "enumerate", .ref l], []⟩) (fun _ R s => s.heap.get? l = some { cls := .type "tuple", dict := dct, data := .seq its n, slots := sl } ∧
      R (.ok (.ret (.ref (s.heap.push (itObj l)).objs.size))) { s with heap := (s.heap.push (itObj l)).push (enObj s.heap.objs.size) }) :=
  .of_wp fun prog w A R s ha => by
    obtain ⟨hp, gg, dd, tk, os⟩ := s
    obtain ⟨hl, ha⟩ := ha
    have isub := sub_enumerate
    have hT : Heap.IsTuple (Shared.heap ⟨hp, gg, dd, tk, os⟩) l its := ⟨_, hl, rfl, n, rfl⟩
    wp_walk using AutoSeq1.wpAny_loadPart' hl
    refine wpAny_stack_any fun stk => wpAny_pure ?_
    split
    · rename_i c _ _ _ _ _
      cases (c == Value.type "enumerate") <;> (wp_walk using AutoSeq1.wpAny_loadPart' hl, wpAny_pyIter_tuple hT; exact ⟨_, rfl, ha⟩)
    · wp_walk using AutoSeq1.wpAny_loadPart' hl, wpAny_pyIter_tuple hT
      exact ⟨_, rfl, ha⟩
theorem call_enumT {prog : Program} {w : World} {A : Around} {E : Value → Shared → Prop} {s : Shared} {l : Addr} {its : Array Value} {Q : Value → Shared → Prop} (hL : s.heap.IsTuple l its)
    (h : ∀ h', IsEnum h' (s.heap.objs.size + 1) s.heap.objs.size 0 .none → h'.IsTupleIter s.heap.objs.size l 0 → (∀ b o, s.heap.get? b = some o → h'.get? b = some o) → Q (.ref (s.heap.objs.size + 1)) { s with heap := h' }) :
    wpAny (model prog w) A (call (.type "enumerate") [.ref l]) Q E s := by
  obtain ⟨⟨c, dct, dt, sl⟩, hl, hc, n, hd⟩ := hL
  obtain rfl : c = .type "tuple" := hc
  obtain rfl : dt = .seq its n := hd
  refine callType_new F.called_enumerate (by decide) (F.typeCall_enumerate_1 _) (F.newCall_enumerate_1 _) (fun obj => F.args_object_init_2 obj _) F.entry_enumerate_new (meets_enumT l its n dct sl) ⟨hl, ?_⟩
  have ez : (s.heap.push (itObj l)).objs.size = s.heap.objs.size + 1 := Heap.size_push ..
  show _ ∧ _
  rw [ez]
  have en : IsEnum ((s.heap.push (itObj l)).push (enObj s.heap.objs.size)) (s.heap.objs.size + 1) s.heap.objs.size 0 .none := by
    have q := Heap.get?_push_size (s.heap.push (itObj l)) (o := enObj s.heap.objs.size) rfl
    rw [ez] at q
    exact q
  exact ⟨⟨_, en, rfl⟩, h _ en ⟨_, Heap.get?_push_of_some _ (Heap.get?_push_size _ rfl), rfl, rfl⟩ fun b o x => Heap.get?_push_of_some _ (Heap.get?_push_of_some _ x)⟩
def Itu (K : PySem.W.Frag) (a : Addr) (xs : List V) : It :=
  ⟨fun i H => SqT K H a xs ∧ i < xs.length, fun i H v H' => ∃ T x, v = .ref T ∧ H T = none ∧ H' = upd H T (.tup [.int (i : Nat), x]) ∧ xs[i]? = some x, fun i H => SqT K H a xs ∧ xs.length ≤ i⟩
theorem turn_enumT {P : Program} {w : World} {K : PySem.W.Frag} {elts : List Expr} {kk : Nat} {tpos : Pos} (a e it : Addr) (xs : List V) :
    Turn P w K (.Tuple elts kk tpos) (Itu K a xs) [e, it] e (fun i h => (∃ old, IsEnum h e it ((i : Nat) : Int) old) ∧ h.IsTupleIter it a i ∧ e ≠ it ∧ a ≠ it ∧ a ≠ e ∧ i ≤ xs.length) where
  mem := by simp
  obj := fun i h st b hb => by
    obtain ⟨⟨old, he⟩, ⟨o, ho, hc, hd⟩, _⟩ := st
    rcases (show b = e ∨ b = it by simpa using hb) with rfl | rfl
    · exact ⟨_, he, fun v q => nomatch q⟩
    · exact ⟨o, ho, fun v q => by rw [hd] at q; cases q⟩
  keep := fun i h h' st k => by
    obtain ⟨⟨old, he⟩, ⟨o, ho, r⟩, hne⟩ := st
    exact ⟨⟨old, k e (by simp) _ he⟩, ⟨o, k it (by simp) _ ho, r⟩, hne⟩
  item := by
    intro X hP hw hK hc i pins s σ H E I hf st hg
    subst hP hw hK
    obtain ⟨⟨old, he⟩, hit, hne, na, nb, nle⟩ := st
    obtain ⟨hq, ilt⟩ := hg
    have hx : xs[i]? = some xs[i] := List.getElem?_eq_getElem ilt
    generalize xs[i] = x at hx
    obtain ⟨its, rv, p, hz⟩ := I.tuple hq
    obtain ⟨u, hu, ru⟩ := rv.get hx
    have hel : e < s.heap.objs.size := Heap.lt_size he
    have hil : it < s.heap.objs.size := by obtain ⟨_, q, _⟩ := hit; exact Heap.lt_size q
    have pt : s.heap.IsTuple a its.toArray := p
    have D := Draws.tuple (prog := X.prog) (w := X.w) (A := X.A.in1) (I.ok.hd hc) it a na its.toArray
    have hlt : i < its.toArray.size := by
      have := (List.getElem?_eq_some_iff.mp hu).1
      simpa using this
    have nef : e ∉ [it, a] := by
      simp only [List.mem_cons, List.not_mem_nil, or_false, not_or]
      exact ⟨hne, fun z => nb z.symm⟩
    refine wpAny_pyNext_enum_itemD D he ⟨hit, pt⟩ hlt hne nef fun v h' tk hv ho hit' hT hsz hk => ?_
    have ev : v = u := by
      have hv2 : its[i]? = some v := by simpa using hv
      rw [hu] at hv2
      exact (Option.some.inj hv2).symm
    subst ev
    refine ⟨_, rfl, wpAny_letOwnedTupleGo_enum (s := { s with heap := h', toks := tk + 1 }) ho fun h'' he' sb => ?_⟩
    have away : ∀ b, b ∉ [e, it] → b ≠ e ∧ b ≠ it := fun b hb => ⟨fun z => hb (by simp [z]), fun z => hb (by simp [z])⟩
    have hT2 : h''.get? s.heap.objs.size = some { cls := .type "tuple", data := .seq #[.int i tk, v] } := (sb.2 _ (Nat.ne_of_gt hel)).trans hT
    have I1 : Inv X pins σ (upd H s.heap.objs.size (.tup [.int (i : Nat), x])) { s with heap := h'', toks := tk + 1 } := by
      refine I.turnedNew (ch := [e, it]) (fun b ob hb q => ?_) hf (Nat.le_refl _) ?_
      · exact (sb.2 b (away b hb).1).trans (hk b ob (away b hb).1 (away b hb).2 q)
      · exact ⟨by show 2 ≤ sizeLine; decide, [.int i tk, v], .cons ⟨_, rfl⟩ (.cons ru .nil), ⟨_, hT2, rfl, _, rfl⟩⟩
    refine ⟨.ref s.heap.objs.size, _, I1, rfl, ⟨s.heap.objs.size, x, rfl, I.hok.fresh (Nat.le_refl _), rfl, hx⟩, ⟨⟨v, ?_⟩, ?_, hne, na, nb, ilt⟩, fun b hb => ?_⟩
    · rw [show ((i + 1 : Nat) : Int) = (i : Int) + 1 by omega]
      exact he'
    · obtain ⟨⟨o, h1, h2⟩, _⟩ := hit'
      exact ⟨o, (sb.2 it (Ne.symm hne)).trans h1, h2⟩
    · have lt : b < s.heap.objs.size := by
        rcases (show b = e ∨ b = it by simpa using hb) with z | z
        · rw [z]; exact hel
        · rw [z]; exact hil
      rw [upd_ne (Nat.ne_of_lt lt)]
      exact (hf b hb).1
  done := by
    intro X hP hw hK hc i pins s σ H E I hf st hg
    subst hP hw hK
    obtain ⟨⟨old, he⟩, hit, hne, na, nb, nle⟩ := st
    obtain ⟨hq, hx⟩ := hg
    obtain ⟨its, rv, p, hz⟩ := I.tuple hq
    obtain ⟨f0, f1, f2, f3, f4, f5⟩ := hf it (by simp)
    have D := Draws.tuple (prog := X.prog) (w := X.w) (A := X.A.in1) (I.ok.hd hc) it a na its.toArray
    have hl := rv.length
    have ei : i = its.toArray.size := by
      have e1 : its.toArray.size = its.length := by simp
      rw [e1, ← hl]
      exact Nat.le_antisymm nle hx
    have pt : s.heap.IsTuple a its.toArray := p
    rw [ei] at hit
    exact wpAny_pyNext_enum_endD D he ⟨hit, pt⟩ fun h' eb => ⟨rfl, I.turned (t' := s.toks) (fun b o hb q => eb b o hb q) f0 f1 f3 f4 f5⟩
  self := fun A i s Q E st h => let ⟨⟨_, he⟩, _⟩ := st; wpAny_pyIter_enum he h
def iEnumT (K : PySem.W.Frag) (ta : TA) : TI := fun σ H R => ta σ H fun vs H1 => ∃ a xs, vs = [.ref a] ∧ SqT K H1 a xs ∧ R (Itu K a xs) H1
theorem pi_enumT {X : Cx} {e : Expr} {ta : TA} {p pos tpos : Pos} {elts : List Expr} {kk : Nat} (hg : Gl X "enumerate") (hm : X.mg "enumerate" = none) (ha : PA X [e] ta) (hs : starEach [e] X.env = [(false, eval e X.env)] := by rfl) :
    PI X (.Tuple elts kk tpos) (.Call (.Name "enumerate" p) [e] [] pos) (iEnumT X.K ta) := by
  refine ⟨fun pins s σ H R I h => ?_⟩
  refine Call_ (ld_blt I hg hm boot_enumerate (PyProof.Rows.callWith_type1 (thn (ha.run pos pins s σ H _ I h) fun us s1 ⟨vs, H1, I1, r1, a, xs, ex, hq, q⟩ => ?_) hs rfl))
  subst ex
  obtain rfl : us = [Value.ref a] := by
    cases r1 with
    | cons r rr =>
      cases rr
      cases r
      rfl
  obtain ⟨its, rv, p', hz⟩ := I1.tuple hq
  have pt : s1.heap.IsTuple a its.toArray := p'
  have al : a < s1.heap.objs.size := by obtain ⟨_, z, _⟩ := pt; exact Heap.lt_size z
  refine call_enumT pt fun h' he hit hk => wpAny_pyIter_enum he ?_
  have I2 : Inv X pins σ H1 { s1 with heap := h' } := I1.kept (t' := s1.toks) hk
  refine ⟨s1.heap.objs.size + 1, [s1.heap.objs.size + 1, s1.heap.objs.size], _, _, H1, rfl, I2, turn_enumT a (s1.heap.objs.size + 1) s1.heap.objs.size xs, ⟨⟨.none, he⟩, hit, Nat.succ_ne_self _, Nat.ne_of_lt al, Nat.ne_of_lt (Nat.lt_succ_of_lt al), Nat.zero_le _⟩, fun b hb => ?_, q⟩
  have le : s1.heap.objs.size ≤ b := by
    rcases (show b = s1.heap.objs.size + 1 ∨ b = s1.heap.objs.size by simpa using hb) with z | z
    · rw [z]; exact Nat.le_add_right _ _
    · rw [z]; exact Nat.le_refl _
  exact I1.fpOk le (I1.hok.fresh le)
theorem walk_enumT {K : PySem.W.Frag} {a : Addr} {xs : List V} : Walk (Itu K a xs) xs.length (fun H => SqT K H a xs) (YPair (fun i => some (.int (i : Nat))) (fun i => xs[i]?)) := by
  refine ⟨fun i _ hi q => ⟨q, hi⟩, fun _ q => ⟨q, Nat.le_refl _⟩, fun i H v H' _ q y => ?_⟩
  obtain ⟨T, x, h1, h2, h3, h4⟩ := y
  exact ⟨T, .int (i : Nat), x, h1, h2, h3, rfl, h4⟩
end ET

set_option maxHeartbeats 3900000
namespace ZL
open PySem PySem.Spec PyProof.Rows L2
theorem nd {x y : Nat} (h : x < y ∨ y < x) : x ≠ y := by omega
end ZL

set_option maxHeartbeats 3900000
namespace LR
open PySem PySem.Spec PyProof.Rows L2
open CB ZL
section
variable {J : It} {n : Nat} {G : Hp → Prop} {K : PySem.W.Frag} {fx fy : Nat → Option V} {i j : Nat} {te : TE} {σ : L2.St} {H1 : Hp} {D : Addr} {Qd : Hp → Prop}
end
section
variable {K : PySem.W.Frag} {i j ia ib : Nat} {te : TE} {σ : L2.St} {H : Hp} {Q : VK} {a b : Addr}
end
def ButD (D : Addr) (H H' : Hp) : Prop := ∀ b o, H b = some o → b ≠ D → H' b = some o
theorem ButD.of {D : Addr} {H H' : Hp} (s : Same H H') : ButD D H H' := fun b o h _ => s b o h
section
variable {J : It} {n : Nat} {G : Hp → Prop} {Y : Nat → Hp → V → Hp → Prop} {j : Nat} {te : TE} {σ : L2.St} {H1 : Hp} {D : Addr} {Qd : Hp → Prop}
end
section
variable {α : Type} {J : It} {n : Nat} {G : Hp → Prop} {Y : Nat → Hp → V → Hp → Prop} {tt : TT} {te : TE} {σ : L2.St} {H1 : Hp} {D : Addr} {Qd : Hp → Prop} {j : Nat}
theorem lcFM (w : Walk J n G Y) (zs : List α) (u g : α → V) (f : α → Bool) (hn : zs.length = n) (hs : n < 1000000) (hY : ∀ i H x H', Y i H x H' → H' = H ∧ (zs.map u)[i]? = some x) (hD : H1 D = none) (hG : ∀ H', Same H1 H' → G H')
    (test : ∀ z ∈ zs, ∀ (H2 : Hp), Same H1 H2 → ∀ Q1 : Bool → Hp → Prop, (∀ H3, Same H2 H3 → Q1 (f z) H3) → tt ((wipe σ [j]).set j (some (u z))) H2 Q1)
    (elt : ∀ z ∈ zs, f z = true → ∀ (H2 : Hp), Same H1 H2 → ∀ Q1 : VK, (∀ H3, Same H2 H3 → Q1 (g z) H3) → te ((wipe σ [j]).set j (some (u z))) H2 Q1)
    (hd : ∀ H', Same H1 H' → H' D = some (.lst ((zs.filter f).map g)) → Qd H') :
    ∃ W : Nat → Nat → Hp → Prop, (∃ m, W 0 m (upd H1 D (.lst []))) ∧ ∀ i m H, W i m H →
      (J.stop i H ∧ Qd H) ∨ (J.go i H ∧ ∃ Nx : Hp → Prop, (∀ H', Nx H' → ∃ m', m' < m ∧ W (i + 1) m' H') ∧ ∀ x H', J.yld i H x H' → gName j x (wipe σ [j]) H' fun σ2 H2 => wipe σ2 [j] = wipe σ [j] ∧ tt σ2 H2 fun b H3 =>
        if b = true then te σ2 H3 fun y H4 => ∃ acc, H4 D = some (.lst acc) ∧ acc.length < sizeLine ∧ Nx (upd H4 D (.lst (acc ++ [y]))) else Nx H3) := by
  subst hn
  refine lc_it w (fun i H' => Same H1 H' ∧ H' D = some (.lst (((zs.take i).filter f).map g))) ⟨same_mk hD, upd_same⟩ (fun i H' _ q => hG H' q.1) ?_ ?_
  · rintro i x H2 H3 hi ⟨s2, hd2⟩ y
    obtain ⟨rfl, hx⟩ := hY i H2 x H3 y
    rw [List.getElem?_map, List.getElem?_eq_getElem hi] at hx
    cases hx
    have hm : zs[i] ∈ zs := List.getElem_mem hi
    have tk : zs.take (i + 1) = zs.take i ++ [zs[i]] := by
      rw [List.take_succ, List.getElem?_eq_getElem hi]
      rfl
    refine ⟨wipe1 _, test zs[i] hm _ s2 _ fun H4 s4 => ?_⟩
    cases hf : f zs[i] with
    | true =>
      refine iteT (elt _ hm hf _ (s2.trans s4) _ fun H5 s5 => ⟨_, s5 _ _ (s4 _ _ hd2), ?_, same_ch ((s2.trans s4).trans s5) hD, ?_⟩)
      · rw [List.length_map]
        have h1 := List.length_filter_le f (zs.take i)
        rw [List.length_take] at h1
        exact Nat.lt_of_lt_of_le (show _ < 1000000 by omega) (by decide)
      · rw [upd_same, tk, List.filter_append, List.filter_cons_of_pos hf, List.filter_nil, List.map_append]
        rfl
    | false =>
      refine iteF ⟨s2.trans s4, ?_⟩
      rw [tk, List.filter_append, List.filter_cons_of_neg (by rw [hf]; decide), List.filter_nil, List.append_nil]
      exact s4 _ _ hd2
  · rintro H' ⟨s, h⟩
    rw [List.take_length] at h
    exact hd H' s h
end
end LR

set_option maxHeartbeats 3900000
namespace ER
open PySem PySem.Spec PyProof.Rows L2 TL
open CB
def iEnumV (K : PySem.W.Frag) (i : Nat) : TI := fun σ H R => ∃ a, σ[i]? = some (some (.ref a)) ∧ ((∃ xs, SqT K H a xs ∧ R (ET.Itu K a xs) H) ∨ ∃ xs, SqL K H a xs ∧ R (Ite K a) H)
theorem pi_enumV {X : Cx} {e : Expr} {i : Nat} {p pos tpos : Pos} {elts : List Expr} {kk : Nat} (hg : Gl X "enumerate") (hm : X.mg "enumerate" = none) (ha : PE X e (tVar i)) (hs : starEach [e] X.env = [(false, eval e X.env)] := by rfl) :
    PI X (.Tuple elts kk tpos) (.Call (.Name "enumerate" p) [e] [] pos) (iEnumV X.K i) := by
  refine ⟨fun pins s σ H R I h => ?_⟩
  obtain ⟨a, hi, ⟨xs, q, r⟩ | ⟨xs, q, r⟩⟩ := h
  · exact (ET.pi_enumT hg hm (pa_cons ha pa_nil hs) hs).run pins s σ H R I ⟨_, hi, a, xs, rfl, q, r⟩
  · exact (pi_enum hg hm (pa_cons ha pa_nil hs) hs).run pins s σ H R I ⟨_, hi, a, xs, rfl, q, r⟩
theorem for_enumV {K : PySem.W.Frag} {v : V} {xs : List V} {q : Nat} {g : TG} {tb : TS} {D : Ends} {σ : L2.St} {H : Hp} (hq : σ[q]? = some (some v)) (h : RowAt H v xs) (Pv : Nat → L2.St → Hp → Prop) (h0 : Pv 0 σ H) (keep : ∀ i τ H', Pv i τ H' → ∀ a o, v = .ref a → H a = some o → H' a = some o)
    (turn : ∀ i x T τ H', i < xs.length → Pv i τ H' → xs[i]? = some x → H' T = none → g (.ref T) τ (upd H' T (.tup [.int (i : Nat), x])) fun σ2 H2 => tb { D with nx := Pv (i + 1), ct := Pv (i + 1), bk := D.nx } σ2 H2) (done : ∀ τ H', Pv xs.length τ H' → D.nx τ H') :
    tFor (iEnumV K q) g tb D σ H := by
  obtain ⟨a, rfl, h1 | h1⟩ := h
  · refine ⟨a, hq, .inl ⟨_, SqT.of h1, for_it (ET.walk_enumT (K := K) (a := a) (xs := xs)) Pv h0 (fun i τ H' _ p => SqT.of (keep i τ H' p _ _ rfl h1)) ?_ done⟩⟩
    rintro i x τ H' H2 hi p ⟨T, y0, y1, rfl, hT, rfl, hy0, hy1⟩
    cases hy0
    exact turn i y1 T τ _ hi p hy1 hT
  · refine ⟨a, hq, .inr ⟨_, SqL.of h1, for_it (walk_enum (K := K) (a := a) (xs := xs)) Pv h0 (fun i τ H' _ p => SqL.of (keep i τ H' p _ _ rfl h1)) ?_ done⟩⟩
    rintro i x τ H' H2 hi p ⟨T, y0, y1, rfl, hT, rfl, hy0, hy1⟩
    cases hy0
    exact turn i y1 T τ _ hi p hy1 hT
end ER

set_option maxHeartbeats 3900000
namespace K3
open PySem PySem.Spec PyProof.Rows L2 TL
open C8 (pss_cut tCut pe_gc)
open CB XW
abbrev sFirst : Stmt := top 35
abbrev sTog : Stmt := top 37
abbrev sSIni : Stmt := inClass (top 3) 0
abbrev sAIni : Stmt := inClass (top 4) 0
def Bar (ss : List (Lk × An)) (i j : Nat) : Prop := ∃ a b, ss[i]? = some a ∧ ss[j]? = some b ∧ barsM a b = true
def FstAp (ss : List (Lk × An)) : Option (Nat × Nat) → Prop
  | none => ∀ i j, i < j → ¬ Bar ss i j
  | some p => p.1 < p.2 ∧ Bar ss p.1 p.2 ∧ ∀ i j, i < j → (i < p.1 ∨ (i = p.1 ∧ j < p.2)) → ¬ Bar ss i j
theorem FstAp.det {ss : List (Lk × An)} {o o' : Option (Nat × Nat)} (h : FstAp ss o) (h' : FstAp ss o') : o = o' := by
  cases o with
  | none =>
    cases o' with
    | none => rfl
    | some p => exact absurd h'.2.1 (h _ _ h'.1)
  | some p =>
    cases o' with
    | none => exact absurd h.2.1 (h' _ _ h.1)
    | some q =>
      obtain ⟨i, j⟩ := p
      obtain ⟨i', j'⟩ := q
      obtain ⟨a1, a2, a3⟩ := h
      obtain ⟨b1, b2, b3⟩ := h'
      have e1 : ¬ (i' < i ∨ (i' = i ∧ j' < j)) := fun z => a3 _ _ b1 z b2
      have e2 : ¬ (i < i' ∨ (i = i' ∧ j < j')) := fun z => b3 _ _ a1 z a2
      dsimp only at *
      have : i = i' := by omega
      subst this
      have : j = j' := by omega
      subst this
      rfl
def pairV (H : Hp) (v : V) : Option (Nat × Nat) → Prop
  | none => v = .non
  | some p => ∃ t, v = .ref t ∧ H t = some (.tup [.int (p.1 : Int), .int (p.2 : Int)])
def spFirst : Sp := fun vs H Q _ => ∃ D ss, vs = [.ref D] ∧ SisL H D ss ∧ ss.length ≤ 1000 ∧ (∀ s ∈ ss, SiOk' s) ∧ ∀ v o H', Same H H' → FstAp ss o → pairV H' v o → Q v H'
def spTog (CA : Addr) : Sp := fun vs H Q E => ∃ D ss, vs = [.ref D] ∧ SisL H D ss ∧ ss.length ≤ 1000 ∧ (∀ s ∈ ss, SiOk' s) ∧ ∀ o, FstAp ss o → (o = none → ∀ H', Same H H' → Q .non H') ∧ ∀ p, o = some p → EWant2 H "first" "second" CA (.int (p.1 : Int)) (.int (p.2 : Int)) E
theorem SiAt.tup {H H' : Hp} {v : V} {s : Lk × An} (h : SiAt H v s) (e : TupS H H') : SiAt H' v s := by
  obtain ⟨t, u, va, rfl, h1, h2, h3⟩ := h
  refine ⟨t, u, va, rfl, e _ _ h1, e _ _ h2, ?_⟩
  obtain ⟨k, a⟩ := s
  cases a with
  | no => exact h3
  | tx z => exact h3
  | es l =>
    obtain ⟨b, e1, e2⟩ := h3
    exact ⟨b, e1, e _ _ e2⟩
theorem tupS_put {H : Hp} {p : Addr} {u w : HO} (h : H p = some u) (n : ∀ xs, u ≠ .tup xs) : TupS H (upd H p w) := fun b xs e => by
  rw [upd_ne fun z => by rw [z, h] at e; exact n xs (Option.some.inj e)]
  exact e
theorem TupS.trans {H H1 H2 : Hp} (a : TupS H H1) (b : TupS H1 H2) : TupS H H2 := fun c xs e => b c xs (a c xs e)
def SgO (H : Hp) (v : V) : Option (Lk × An) → Prop
  | none => SgNo H v
  | some s => SiIn H v s ∧ SiOk' s
theorem SgO.up {H H' : Hp} {v : V} {o : Option (Lk × An)} (h : SgO H v o) (s : Same H H') : SgO H' v o := by
  cases o with
  | none => exact SgNo.up h s
  | some x => exact ⟨SiIn.up h.1 s, h.2⟩
def Okp (os : List (Option (Lk × An))) : Prop := (∀ o ∈ os, ∃ s, o = some s) ∧ os.Pairwise fun a b => ∀ s t, a = some s → b = some t → s.1 ≠ t.1
def Bad (os : List (Option (Lk × An))) (i : Nat) : Prop := Okp (os.take i) ∧ ∃ o, os[i]? = some o ∧ (o = none ∨ ∃ s t, o = some s ∧ some t ∈ os.take i ∧ t.1 = s.1)
theorem Bad.le {os : List (Option (Lk × An))} {j : Nat} (b : Bad os j) {i : Nat} (h : Okp (os.take i)) : i ≤ j := by
  obtain ⟨_, o, e, q⟩ := b
  refine Nat.le_of_not_lt fun lt => ?_
  have m : (os.take i)[j]? = some o := by rw [List.getElem?_take_of_lt lt, e]
  rcases q with rfl | ⟨s, t, rfl, ht, et⟩
  · obtain ⟨s, z⟩ := h.1 _ (List.mem_of_getElem? m)
    cases z
  · obtain ⟨k, hk⟩ := List.getElem?_of_mem ht
    have kj : k < j := by
      refine Nat.lt_of_not_le fun z => ?_
      rw [List.getElem?_eq_none (by rw [List.length_take]; omega)] at hk
      cases hk
    rw [List.getElem?_take_of_lt kj] at hk
    have hk2 : (os.take i)[k]? = some (some t) := by rw [List.getElem?_take_of_lt (by omega), hk]
    obtain ⟨l1, g1⟩ := List.getElem?_eq_some_iff.mp hk2
    obtain ⟨l2, g2⟩ := List.getElem?_eq_some_iff.mp m
    have := List.pairwise_iff_getElem.mp h.2 k j l1 l2 kj
    exact this t s g1 g2 et
theorem okp_snoc {os : List (Option (Lk × An))} {i : Nat} {s : Lk × An} (h : Okp (os.take i)) (e : os[i]? = some (some s)) (n : ∀ t, some t ∈ os.take i → t.1 ≠ s.1) : Okp (os.take (i + 1)) := by
  have tk : os.take (i + 1) = os.take i ++ [some s] := by
    rw [List.take_succ, e]
    rfl
  rw [tk]
  refine ⟨fun o ho => ?_, List.pairwise_append.mpr ⟨h.2, List.pairwise_singleton _ _, fun a ha b hb x y ex ey => ?_⟩⟩
  · rcases List.mem_append.mp ho with ho | ho
    · exact h.1 o ho
    · exact ⟨s, List.mem_singleton.mp ho⟩
  · rw [List.mem_singleton.mp hb] at ey
    cases ey
    subst ex
    exact n x ha
def Sgs (H : Hp) (xs : List V) (os : List (Option (Lk × An))) : Prop := xs.length = os.length ∧ ∀ (i : Nat) (x : V) (o : Option (Lk × An)), xs[i]? = some x → os[i]? = some o → SgO H x o
def spSOR (CS : Addr) : Sp := fun vs H Q E => ∃ v xs os, vs = [v] ∧ RowAt H v xs ∧ Sgs H xs os ∧ os.length ≤ 1000 ∧
  ((∃ ss : List (Lk × An), os = ss.map some ∧ (ss.map (·.1)).Nodup ∧ ∀ D H', Same H H' → H D = none → SisL H' D ss → Q (.ref D) H') ∨ ∃ i, Bad os i ∧ EWant H "index" CS (.int (i : Int)) E)
theorem okp_of {ss : List (Lk × An)} (h : (ss.map (·.1)).Nodup) : Okp (ss.map some) := by
  refine ⟨fun o ho => ?_, ?_⟩
  · obtain ⟨s, _, rfl⟩ := List.mem_map.mp ho
    exact ⟨s, rfl⟩
  · rw [List.pairwise_map]
    unfold List.Nodup at h
    rw [List.pairwise_map] at h
    refine h.imp fun {a b} ne s t es et => ?_
    cases es
    cases et
    exact ne
theorem some_map_inj {l m : List (Lk × An)} (h : l.map some = m.map some) : l = m := by
  have := congrArg (List.filterMap id) h
  simpa [List.filterMap_map] using this
section
variable {P : Program} {w : World} {K : PySem.W.Frag} {mg : Str → Option Value} {base : Heap} {CS CA fS fA : Addr} {fdS fdA : FuncData}
abbrev BSig (K : PySem.W.Frag) (mg : Str → Option Value) (C f : Addr) : Prop := ECl K mg "BadSight" "index" C f
abbrev BApart (K : PySem.W.Frag) (mg : Str → Option Value) (C f : Addr) : Prop := ECl2 K mg "Apart" "first" "second" C f
theorem scSIni : FnScope ["self", "index"] ["self", "index"] (defScope sSIni) := ⟨rfl, rfl, rfl, by decide +kernel, rfl, by decide +kernel, by decide +kernel⟩
theorem ok_sini {f : Addr} {fd : FuncData} (F : Fun K "__init__" "BadSight.__init__" sSIni f fd) (B : BSig K mg CS fS) : FnOk P w K mg base CX0 1 f fd ["self", "index"] (spEIni "index" CS) := by
  refine F.ok scSIni (fun vs H Q E h => ?_) (fun cdv A outer s H vs Q E hr h => ?_)
  · obtain ⟨a, x, rfl, _⟩ := h
    rfl
  · obtain ⟨a, x, rfl, ha, k⟩ := h
    exact ⟨_, pss_one (ps_ost (pv 0) (pv 1) rfl), _, rfl, _, rfl, a, CS, rfl, B.ox, B.no, .inl ⟨ha, fun dx hdx hne => k dx hdx hne⟩⟩
theorem scAIni : FnScope ["self", "first", "second"] ["self", "first", "second"] (defScope sAIni) := ⟨rfl, rfl, rfl, by decide +kernel, rfl, by decide +kernel, by decide +kernel⟩
theorem ok_aini {f : Addr} {fd : FuncData} (F : Fun K "__init__" "Apart.__init__" sAIni f fd) (B : BApart K mg CA fA) : FnOk P w K mg base CX0 1 f fd ["self", "first", "second"] (spEIni2 "first" "second" CA) := by
  refine F.ok scAIni (fun vs H Q E h => ?_) (fun cdv A outer s H vs Q E hr h => ?_)
  · obtain ⟨a, x, y, rfl, _⟩ := h
    rfl
  · obtain ⟨a, x, y, rfl, ha, k⟩ := h
    exact ⟨_, pss_cons (ps_ost (pv 0) (pv 1) rfl) (pss_one (ps_ost (pv 0) (pv 2) rfl)), _, rfl, _, rfl, a, CA, rfl, B.ox, B.no1, .inl ⟨ha, fun d h1 h2 => ⟨_, rfl, _, rfl, a, CA, rfl, B.ox, B.no2, .inr ⟨d, _, upd_same, by rw [upd_ne h2]; exact upd_same, by show 1 ≤ 900; decide, k d h1 h2⟩⟩⟩⟩
theorem scFirst : FnScope ["sights", "first", "one", "second"] ["sights"] (defScope sFirst) := ⟨rfl, rfl, rfl, by decide +kernel, rfl, by decide +kernel, by decide +kernel⟩
theorem ok_first {f fB : Addr} {fd fdB : FuncData} (F : Fun K "first_apart" "first_apart" sFirst f fd) (T : TB mg) (aBarE : At K mg "bar_each_other" fB fdB ["one", "other"]) (GBarE : FnOk P w K mg base CX0 7 fB fdB ["one", "other"] spBarE) : FnOk P w K mg base CX0 8 f fd ["sights"] spFirst := by
  refine F.ok scFirst (fun vs H Q E h => ?_) (fun cdv A outer s H vs Q E hr h => ?_)
  · obtain ⟨D, ss, rfl, _⟩ := h
    rfl
  · obtain ⟨D, ss, rfl, ⟨vs, hD, vl, hv⟩, hl, ok, k⟩ := h
    refine ⟨_, pss_cons (ps_for PassesOwn.never rfl (pi_enum rfl T.enumerate (pa_cons (pv 0) pa_nil)) (pg_tup rfl (pgs_cons (pg_name (i := 1) scFirst.nd rfl (Or.inl rfl)) (pgs_cons (pg_name (i := 2) scFirst.nd rfl (Or.inl rfl)) pgs_nil))) (pss_one (ps_for PassesOwn.never rfl (pi_range2 rfl T.range (pa_cons (pe_op op_add (pv 1) pe_int) (pa_cons (pe_callB call_len_seq (by rfl) T.len PySem.boot_len (pa_cons (pv 0) pa_nil)) pa_nil))) (pg_name (i := 3) scFirst.nd rfl (Or.inl rfl)) (pss_one (ps_if (pt_val (pe_call GBarE (hr.mono (by decide)) rfl aBarE.m aBarE.k aBarE.b .nil pass0 (pa_cons (pv 2) (pa_cons (pe_ix ix_list (pv 0) (pv 3) (fun _ _ => rfl)) pa_nil)))) (pss_one (ps_ret (pe_tup (pa_cons (pv 1) (pa_cons (pv 3) pa_nil))))) (pss_nil))))))
            (pss_one (ps_ret pe_non)), ?_⟩
    refine ⟨_, rfl, D, vs, rfl, SqL.of hD, for_it (walk_enum (K := K) (a := D) (xs := vs)) (fun i σ H' => ∃ x1 x2 x3, σ = [some (.ref D), x1, x2, x3] ∧ Same H H' ∧ ∀ i' j', i' < j' → i' < i → ¬ Bar ss i' j')
      ⟨_, _, _, rfl, Same.refl H, fun i' j' _ h => absurd h (Nat.not_lt_zero _)⟩ (fun i σ H' _ q => by obtain ⟨_, _, _, _, s, _⟩ := q; exact s.seq (SqL.of hD)) ?_ ?_⟩
    · rintro i _ _ H1 H2 hi ⟨x1, x2, x3, rfl, s1, before⟩ ⟨T3, y0, y1, rfl, hT, rfl, hy0, hy1⟩
      cases hy0
      have hc : ss[i]? = some ss[i] := List.getElem?_eq_getElem (by omega)
      have s2 := same_mk (o := .tup [.int (i : Nat), y1]) hT
      have hT2 := upd_same (H := H1) (a := T3) (o := .tup [.int (i : Nat), y1])
      have s12 := s1.trans s2
      generalize upd H1 T3 (.tup [.int (i : Nat), y1]) = H3 at s2 hT2 s12 ⊢
      refine ⟨T3, _, rfl, SqT.of hT2, rfl, _, _, rfl, _, _, rfl, rfl, ?_⟩
      have vm : (vs.length : Int) < 2 ^ 62 := by omega
      refine ⟨_, rfl, _, _, rfl, rfl, _, rfl, D, _, rfl, .inl (SqL.of (s12 _ _ hD)), (i : Int) + 1, _, rfl, ⟨by omega, by omega, by omega, vm⟩, for_range (lo := (i : Int) + 1) (n := ((vs.length : Int) - ((i : Int) + 1)).toNat) (fun j σ H' => ∃ x3, σ = [some (.ref D), some (.int (i : Nat)), some y1, x3] ∧ Same H H' ∧ (∀ i' j', i' < j' → i' < i → ¬ Bar ss i' j') ∧ ∀ j', i < j' → j' < i + 1 + j → ¬ Bar ss i j')
        ⟨_, rfl, s12, before, fun j' h1 h2 => by omega⟩ ?_ ?_⟩
      · rintro j _ H4 hj ⟨x3, rfl, s4, before, row⟩
        have lt : i + 1 + j < vs.length := by omega
        have e2 : ss[i + 1 + j]? = some ss[i + 1 + j] := List.getElem?_eq_getElem (by omega)
        have e3 : vs[i + 1 + j]? = some vs[i + 1 + j] := List.getElem?_eq_getElem lt
        have ej : (i : Int) + 1 + (j : Int) = ((i + 1 + j : Nat) : Int) := by omega
        rw [ej]
        refine ⟨_, rfl, _, rfl, _, rfl, D, _, _, _, rfl, rfl, SqL.of (s4 _ _ hD), atI_nat (j := i + 1 + j) e3, y1, _, ss[i], ss[i + 1 + j], rfl, (hv _ _ _ hy1 hc).up s4, (hv _ _ _ e3 e2).up s4, ok _ (List.mem_of_getElem? hc), ok _ (List.mem_of_getElem? e2), fun H5 s5 => ⟨_, rfl, ?_⟩⟩
        have s45 := s4.trans s5
        by_cases bb : barsM ss[i] ss[i + 1 + j] = true
        · rw [bb]
          refine iteT ⟨_, rfl, _, rfl, by show 2 ≤ sizeLine; decide, fun t ht => k _ (some (i, i + 1 + j)) _ (same_ch s45 (s45.free ht)) ⟨by show i < i + 1 + j; omega, ⟨_, _, hc, e2, bb⟩, fun i' j' lt2 h => ?_⟩ ⟨t, rfl, upd_same⟩⟩
          rcases h with h | ⟨rfl, h⟩
          · exact before i' j' lt2 h
          · exact row j' lt2 h
        · rw [Bool.not_eq_true] at bb
          rw [bb]
          refine iteF ⟨_, rfl, s45, before, fun j' h1 h2 => ?_⟩
          rcases Nat.lt_or_ge j' (i + 1 + j) with h3 | h3
          · exact row j' h1 h3
          · obtain rfl : j' = i + 1 + j := by omega
            rintro ⟨a, b, ha, hb, z⟩
            rw [hc] at ha
            rw [e2] at hb
            cases ha
            cases hb
            rw [bb] at z
            cases z
      · rintro σ H4 ⟨x3, rfl, s4, before, row⟩
        refine ⟨_, _, _, rfl, s4, fun i' j' lt h => ?_⟩
        rcases Nat.lt_or_ge i' i with h1 | h1
        · exact before i' j' lt h1
        · obtain rfl : i' = i := by omega
          intro b
          refine row j' lt ?_ b
          obtain ⟨_, z, _, hz, _⟩ := id b
          have := (List.getElem?_eq_some_iff.mp hz).1
          omega
    · rintro σ H1 ⟨x1, x2, x3, rfl, s1, before⟩
      refine k .non none H1 s1 (fun i' j' lt b => ?_) rfl
      refine before i' j' lt ?_ b
      obtain ⟨a, _, ha, _⟩ := b
      have := (List.getElem?_eq_some_iff.mp ha).1
      omega
theorem scTog : FnScope ["plain", "pair"] ["plain"] (defScope sTog) := ⟨rfl, rfl, rfl, by decide +kernel, rfl, by decide +kernel, by decide +kernel⟩
theorem ok_tog {f fF : Addr} {fd fdF : FuncData} (F : Fun K "check_together" "check_together" sTog f fd) (T : TB mg) (aFirst : At K mg "first_apart" fF fdF ["sights"]) (GFirst : FnOk P w K mg base CX0 8 fF fdF ["sights"] spFirst)
    (BA : BApart K mg CA fA) (bBA : L2.Binds K fdA ["self", "first", "second"] []) (GBA : FnOk P w K mg base CX0 1 fA fdA ["self", "first", "second"] (spEIni2 "first" "second" CA)) : FnOk P w K mg base (CX P w) 9 f fd ["plain"] (spTog CA) := by
  refine F.okX scTog (fun vs H Q E h => ?_) (fun cdv A outer s H vs Q E hr h => ?_)
  · obtain ⟨D, ss, rfl, _⟩ := h
    rfl
  · obtain ⟨D, ss, rfl, hD, hl, ok, k⟩ := h
    refine ⟨_, pss_cons (ps_set (i := 1) scTog.nd rfl (Or.inl rfl) (pe_call GFirst (hr.mono (by decide)) rfl aFirst.m aFirst.k aFirst.b .nil pass0 (pa_cons (pv 0) pa_nil)))
            (pss_one (ps_if (pt_cmp (pc_notN (pv 1))) (pss_one (ps_raise rfl (takes_of rfl rfl rfl rfl) (pmk_oex BA.ox BA.iC BA.tI GBA (hr.mono (by decide)) bBA .nil pass0 rfl BA.mg (pa_cons (pe_ix ix_tup (pv 1) pe_int (fun _ _ => rfl)) (pa_cons (pe_ix ix_tup (pv 1) pe_int (fun _ _ => rfl)) pa_nil))))) (pss_nil))), ?_⟩
    refine ⟨_, rfl, D, ss, rfl, hD, hl, ok, fun v o H1 s1 fa pv => ?_⟩
    obtain ⟨k1, k2⟩ := k o fa
    cases o with
    | none =>
      cases (show v = .non from pv)
      exact ⟨_, rfl, _, rfl, iteF (k1 rfl H1 s1)⟩
    | some p =>
      obtain ⟨t, rfl, ht⟩ := pv
      refine ⟨_, rfl, _, rfl, iteT ?_⟩
      refine ⟨_, rfl, t, _, 0, _, rfl, rfl, SqT.of ht, atI_nat (j := 0) rfl, _, rfl, t, _, 1, _, rfl, rfl, SqT.of ht, atI_nat (j := 1) rfl, by show 2 ≤ 1000; decide, fun b hb => ⟨b, _, _, rfl, upd_same, fun dx hdx hne => ⟨rfl, eraise2_at s1 hb hdx hne (k2 p rfl)⟩⟩⟩
end
end K3

set_option maxHeartbeats 3900000
namespace FI
open PySem PySem.Spec PyProof.Rows L2 TL RP
open C8 (pss_cut tCut pe_gc)
open CB
structure Fine (d : PyData) (dep n : Nat) : Prop where
  sh : d.showable = true
  dp : d.depth ≤ dep
  sz : d.shown.length ≤ n
theorem piled_le : ∀ (ts : List Str) (n : Nat), (∀ t ∈ ts, t.length ≤ n) → piled ts ≤ ts.length * (n + 2)
  | [], n, _ => by
    rw [piled_nil]
    omega
  | t :: r, n, h => by
    have ih := piled_le r n fun u hu => h u (List.mem_cons_of_mem _ hu)
    have h1 := h t List.mem_cons_self
    rw [piled_cons, List.length_cons, Nat.succ_mul]
    omega
theorem listText_le (ts : List Str) (n : Nat) (h : ∀ t ∈ ts, t.length ≤ n) : (listText ts).length ≤ 2 + ts.length * (n + 2) := by
  have pl := piled_le ts n h
  cases ts with
  | nil =>
    show 2 ≤ 2 + 0 * (n + 2)
    omega
  | cons t r =>
    have e : (listText (t :: r)).length = (textFrom 1 (("[" : Str) ++ (if 0 > 0 then ", " else "" : String) ++ t) r).length + 1 := by
      show ((textFrom 0 "[" (t :: r)) ++ ("]" : String)).length = _
      rw [strLen_append]
      rfl
    rw [e, textFrom_length_pos r 1 _ (by decide), strLen_append, strLen_append]
    rw [piled_cons] at pl
    have e1 : (("[" : String) : Str).length = 1 := rfl
    have e2 : (((if 0 > 0 then ", " else "" : String)) : Str).length = 0 := rfl
    rw [e1, e2]
    omega
theorem shown_mem : ∀ {ds : List PyData} {t : Str}, t ∈ PyData.shownAll ds → ∃ d ∈ ds, t = d.shown
  | [], t, h => by simp [PyData.shownAll] at h
  | d :: r, t, h => by
    simp only [PyData.shownAll] at h
    rcases List.mem_cons.mp h with rfl | h
    · exact ⟨d, List.mem_cons_self, rfl⟩
    · obtain ⟨e, he, q⟩ := shown_mem h
      exact ⟨e, List.mem_cons_of_mem _ he, q⟩
theorem shownAll_len : ∀ ds : List PyData, (PyData.shownAll ds).length = ds.length
  | [] => by simp [PyData.shownAll]
  | d :: r => by simp [PyData.shownAll, shownAll_len r]
theorem showAll : ∀ ds : List PyData, (∀ d ∈ ds, d.showable = true) → PyData.showableAll ds = true
  | [], _ => by simp [PyData.showableAll]
  | d :: r, h => by simp [PyData.showableAll, h d List.mem_cons_self, showAll r fun u hu => h u (List.mem_cons_of_mem _ hu)]
theorem depAll (n : Nat) : ∀ ds : List PyData, (∀ d ∈ ds, d.depth ≤ n) → PyData.depthAll ds ≤ n
  | [], _ => by simp [PyData.depthAll]
  | d :: r, h => by
    have h1 := h d List.mem_cons_self
    have h2 := depAll n r fun u hu => h u (List.mem_cons_of_mem _ hu)
    simp only [PyData.depthAll]
    omega
theorem Fine.lst {ds : List PyData} {dep n m : Nat} (h : ∀ d ∈ ds, Fine d dep n) (hm : 2 + ds.length * (n + 2) ≤ m) : Fine (.list ds) (dep + 1) m := by
  refine ⟨?_, ?_, ?_⟩
  · simp only [PyData.showable]
    exact showAll ds fun d hd => (h d hd).sh
  · simp only [PyData.depth]
    exact Nat.succ_le_succ (depAll dep ds fun d hd => (h d hd).dp)
  · simp only [PyData.shown]
    have q := listText_le (PyData.shownAll ds) n fun t ht => by
      obtain ⟨d, hd, rfl⟩ := shown_mem ht
      exact (h d hd).sz
    rw [shownAll_len] at q
    exact Nat.le_trans q hm
theorem dq_strs {K : PySem.W.Frag} {H : Hp} : ∀ l : List Str, DqAll K H (l.map V.str) (l.map PyData.str)
  | [] => .nil
  | z :: r => .cons (.str z) (dq_strs r)
theorem Fine.up {d : PyData} {a n b m : Nat} (h : Fine d a n) (h1 : a ≤ b) (h2 : n ≤ m) : Fine d b m := ⟨h.sh, Nat.le_trans h.dp h1, Nat.le_trans h.sz h2⟩
theorem tupTextN_le (ts : List Str) (n : Nat) (h : ∀ t ∈ ts, t.length ≤ n) : (tupleText ts).length ≤ 3 + ts.length * (n + 2) := by
  have pl := piled_le ts n h
  unfold tupleText
  rw [strLen_append, strLen_append]
  have e1 : ((("(" : String) : Str)).length = 1 := rfl
  have e3 : (((if ts.length == 1 then ",)" else ")" : String) : Str)).length ≤ 2 := by
    by_cases q : (ts.length == 1) = true
    · rw [if_pos q]
      exact Nat.le_refl _
    · rw [if_neg q]
      exact Nat.le_succ _
  by_cases e : ts = []
  · subst e
    have e4 : ((Str.ofString ", ").join ([] : List Str)).length = 0 := by decide +kernel
    rw [e1, e4]
    omega
  · have j := join_length_add ts e
    rw [e1]
    omega
theorem Fine.tup {ds : List PyData} {dep n m : Nat} (h : ∀ d ∈ ds, Fine d dep n) (hm : 3 + ds.length * (n + 2) ≤ m) : Fine (.tuple ds) (dep + 1) m := by
  refine ⟨?_, ?_, ?_⟩
  · simp only [PyData.showable]
    exact showAll ds fun d hd => (h d hd).sh
  · simp only [PyData.depth]
    exact Nat.succ_le_succ (depAll dep ds fun d hd => (h d hd).dp)
  · simp only [PyData.shown]
    have q := tupTextN_le (PyData.shownAll ds) n fun t ht => by
      obtain ⟨d, hd, rfl⟩ := shown_mem ht
      exact (h d hd).sz
    rw [shownAll_len] at q
    exact Nat.le_trans q hm
theorem fine_str {z : Str} {n : Nat} (hc : ∀ c ∈ tl z, c < 16 ^ 8) (hn : z.length ≤ n) : Fine (.str z) 0 (10 * n + 2) := by
  refine ⟨by simp [PyData.showable], by simp [PyData.depth], ?_⟩
  have q := PySem.StrLaws.reprText_len z hc
  simp only [PyData.shown]
  omega
theorem fine_non : Fine .none 0 10 := ⟨by simp [PyData.showable], by simp [PyData.depth], by simp only [PyData.shown]; decide⟩
end FI

set_option maxHeartbeats 3900000
namespace DV
open PySem PySem.Spec PyProof.Rows L2 TL RP
open CB
inductive Dv
  | non
  | int (i : Int)
  | bl (b : Bool)
  | str (z : Str)
  | tup (l : List Dv)
  | lst (l : List Dv)
  | dct
mutual
/-- v is so made, of things that H0 does not hold -/
inductive Dat (H0 H : Hp) : V → Dv → Prop
  | non : Dat H0 H .non .non
  | int (i : Int) : Dat H0 H (.int i) (.int i)
  | bl (b : Bool) : Dat H0 H (.bl b) (.bl b)
  | str (z : Str) : Dat H0 H (.str z) (.str z)
  | tup {a : Addr} {xs : List V} {ds : List Dv} (n : H0 a = none) (h : H a = some (.tup xs)) (k : DatAll H0 H xs ds) : Dat H0 H (.ref a) (.tup ds)
  | lst {a : Addr} {xs : List V} {ds : List Dv} (n : H0 a = none) (h : H a = some (.lst xs)) (k : DatAll H0 H xs ds) : Dat H0 H (.ref a) (.lst ds)
  | dct {a : Addr} (n : H0 a = none) (h : H a = some (.dK [])) : Dat H0 H (.ref a) .dct
inductive DatAll (H0 H : Hp) : List V → List Dv → Prop
  | nil : DatAll H0 H [] []
  | cons {v : V} {vs : List V} {d : Dv} {ds : List Dv} (h : Dat H0 H v d) (k : DatAll H0 H vs ds) : DatAll H0 H (v :: vs) (d :: ds)
end
mutual
theorem Dat.up {H0 H H' : Hp} (e : ∀ a o, H0 a = none → H a = some o → (∀ ps, o ≠ .tbl ps) → H' a = some o) : ∀ {v : V} {d : Dv}, Dat H0 H v d → Dat H0 H' v d
  | _, _, .non => .non
  | _, _, .int i => .int i
  | _, _, .bl b => .bl b
  | _, _, .str z => .str z
  | _, _, .tup n h k => .tup n (e _ _ n h fun _ z => by cases z) (DatAll.up e k)
  | _, _, .lst n h k => .lst n (e _ _ n h fun _ z => by cases z) (DatAll.up e k)
  | _, _, .dct n h => .dct n (e _ _ n h fun _ z => by cases z)
theorem DatAll.up {H0 H H' : Hp} (e : ∀ a o, H0 a = none → H a = some o → (∀ ps, o ≠ .tbl ps) → H' a = some o) : ∀ {vs : List V} {ds : List Dv}, DatAll H0 H vs ds → DatAll H0 H' vs ds
  | _, _, .nil => .nil
  | _, _, .cons h k => .cons (Dat.up e h) (DatAll.up e k)
end
mutual
theorem Dat.base {H0 H1 H : Hp} (e : ∀ a, H0 a = none → H1 a = none) : ∀ {v : V} {d : Dv}, Dat H0 H v d → Dat H1 H v d
  | _, _, .non => .non
  | _, _, .int i => .int i
  | _, _, .bl b => .bl b
  | _, _, .str z => .str z
  | _, _, .tup n h k => .tup (e _ n) h (DatAll.base e k)
  | _, _, .lst n h k => .lst (e _ n) h (DatAll.base e k)
  | _, _, .dct n h => .dct (e _ n) h
theorem DatAll.base {H0 H1 H : Hp} (e : ∀ a, H0 a = none → H1 a = none) : ∀ {vs : List V} {ds : List Dv}, DatAll H0 H vs ds → DatAll H1 H vs ds
  | _, _, .nil => .nil
  | _, _, .cons h k => .cons (Dat.base e h) (DatAll.base e k)
end
theorem DatAll.length {H0 H : Hp} : ∀ {vs : List V} {ds : List Dv}, DatAll H0 H vs ds → vs.length = ds.length
  | _, _, .nil => rfl
  | _, _, .cons _ k => congrArg Nat.succ k.length
section
variable {X : Cx} {e : Expr} {es : List Expr} {pos : Pos}
end
end DV

set_option maxHeartbeats 3900000
namespace FD
open PySem PySem.Spec PyProof.Rows L2 TL RP
open CB FI DV
end FD

set_option maxHeartbeats 3900000
namespace K3
open PySem PySem.Spec PyProof.Rows L2 TL
open C8 (pss_cut tCut pe_gc)
open CB
def But3 (st l p : Addr) (H H' : Hp) : Prop := ∀ b o, H b = some o → b ≠ st → b ≠ l → b ≠ p → H' b = some o
theorem But3.trans {st l p : Addr} {H H1 H2 : Hp} (a : But3 st l p H H1) (b : But3 st l p H1 H2) : But3 st l p H H2 := fun c o h n1 n2 n3 => b c o (a c o h n1 n2 n3) n1 n2 n3
theorem But3.at {st l p : Addr} {H : Hp} {o : HO} : But3 st l p H (upd H p o) := fun c o' h n1 n2 n3 => by rw [upd_ne n3]; exact h
theorem Strm.tup_ne {H : Hp} {st l : Addr} {c : Nat} {t : Addr} {xs : List V} (S : Strm H st l c) (h : H t = some (.tup xs)) : t ≠ st ∧ t ≠ l := by
  obtain ⟨ns, a, m, ⟨h1, h2⟩, _⟩ := S.ex
  exact ⟨ne_of h h1 (by intro z; cases z), ne_of h h2 (by intro z; cases z)⟩
section
variable {P : Program} {w : World} {K : PySem.W.Frag} {mg : Str → Option Value} {base : Heap} {fD : Addr} {fdD : FuncData}
end
end K3

set_option maxHeartbeats 3900000
namespace MS
open PySem PySem.Spec PyProof.Rows L2 TL
section
variable {X : Cx} {CX : CXT} {k : Nat} {f C : Addr} {fd : FuncData} {ps : List Str} {sp : Sp} {E : L2.St → XK} {x : Str} {p pos : Pos} {e : Expr} {es : List Expr} {t : TA}
def tMakeS (C : Addr) (sp : Sp) (E : L2.St → XK) (t : TA) : TE := fun σ H Q => t σ H fun vs H1 => ∀ x dx, H1 x = Option.none → H1 dx = Option.none → dx ≠ x →
  sp (V.ref x :: vs) (upd (upd H1 dx (.own x)) x (.ins C dx [])) (fun v H2 => v = .non ∧ Q (.ref x) H2) (E σ)
theorem run_makeS {pins : List (Addr × Obj)} {σ : L2.St} {H : Hp} {s : Shared} {Q : VK} {us : List Value} {vs : List V} (M : Mk X.K C f) (F : FnOk X.prog X.w X.K X.mg X.base CX k f fd ps sp) (hr : Room (k + 1) X.A) (hb : L2.Binds X.K fd ps [])
    (hx : PassesAt CX X σ (E σ)) (I : Inv X pins σ H s) (r : Vals vs us)
    (h : ∀ x dx, H x = none → H dx = none → dx ≠ x → sp (.ref x :: vs) (upd (upd H dx (.own x)) x (.ins C dx [])) (fun v H2 => v = .non ∧ Q (.ref x) H2) (E σ)) :
    wpAny (model X.prog X.w) X.A (call (.ref C) us) (EP X pins σ Q) X.xe s := by
  have hq := h (s.heap.objs.size + 1) s.heap.objs.size (I.hok.fresh (Nat.le_succ _)) (I.hok.fresh (Nat.le_refl _)) (Nat.ne_of_lt (Nat.lt_succ_self _))
  have I2 := Inv.made (C := C) I
  have r2 : Vals (V.ref (s.heap.objs.size + 1) :: vs) (Value.ref (s.heap.objs.size + 1) :: us) := .cons rfl r
  have hl : (Value.ref (s.heap.objs.size + 1) :: us).length = ps.length := by
    have e := r2.length
    rw [F.len _ _ _ _ hq] at e
    exact e.symm
  have b := hb _ (Value.ref (s.heap.objs.size + 1) :: us) I2.kIn (by rw [List.append_nil]; exact hl)
  rw [List.append_nil] at b
  refine wpAny_call (make_map (f := f) I.kIn M.makes M.init (beq_iff_eq.mp M.fn) (codeAny_mono (F.run _ X.stack _ _ ⟨Value.ref (s.heap.objs.size + 1) :: us, []⟩ (Value.ref (s.heap.objs.size + 1) :: us) _ _ (E σ) (hr.make C us [])
    (I2.env0.make C us []) b r2 hq) fun r s' hq' => ?_))
  cases r with
  | error e => exact hx pins _ _ e s' I2 hq'
  | ok fl =>
    cases fl with
    | ret u =>
      obtain ⟨v, H', I3, rv, ev, q3⟩ := I2.after hq'
      subst ev
      exact ⟨rv, ⟨V.ref (s.heap.objs.size + 1), H', I3, rfl, q3⟩⟩
    | next => exact False.elim hq'
    | brk => exact False.elim hq'
    | cont => exact False.elim hq'
theorem pe_makeS (M : Mk X.K C f) (F : FnOk X.prog X.w X.K X.mg X.base CX k f fd ps sp) (hr : Room (k + 1) X.A) (hg : Gl X x) (hm : X.mg x = some (.ref C)) (hb : L2.Binds X.K fd ps []) (hx : ∀ σ, PassesAt CX X σ (E σ))
    (ha : PA X (e :: es) t) (hdb : (x == ("__debug__" : Str)) = false := by decide) (he : starEach (e :: es) X.env = (false, eval e X.env) :: starEach es X.env := by rfl) (hpl : (backTo pos (starEach es X.env)).any (·.1) = false := by rfl) :
    PE X (.Call (.Name x p) (e :: es) [] pos) (tMakeS C sp E t) := by
  refine ⟨fun pins s σ H Q I h => ?_⟩
  refine wpAny_Call_Name_kw (ld_glob I hg hm ?_ hdb)
  refine PySem.W.callWith_K (h₀ := X.base) I.ok.mod.kin M.kp (thn (ha.run pos pins s σ H _ I h) fun us s1 ⟨vs, H1, I1, r, q⟩ => ⟨I1.kIn, ?_⟩) he hpl
  exact run_makeS M F hr hb (hx σ) I1 r q
end
theorem pe_fldK {X : Cx} (K0 : PySem.W.Frag) (hK : X.K = K0) {e : Expr} {f : Str} {te : TE} {pos : Pos} (he : PE X e te) (hb : attributeBase e f X.env (eval e X.env) = eval e X.env) : PE X (.Attribute e f pos) (tFld K0 te f) := by
  subst hK
  exact pe_fld he hb
end MS

set_option maxHeartbeats 3900000
namespace K3
open PySem PySem.Spec PyProof.Rows L2 TL
open C8 (pss_cut tCut pe_gc)
open CB
abbrev sRoom : Stmt := top 63
abbrev sFiles : Stmt := top 65
abbrev sWorld : Stmt := top 66
abbrev sNin : Stmt := top 67
abbrev sShows : Stmt := top 68
abbrev Fs := List (List Str × Str)
def fsK (fs : Fs) : List (L2.Key × V) := fs.map fun e => (.inr (js e.1), .str e.2)
def room (fs : Fs) (p : List Str) : Bool := !(fs.any fun e => ben p e.1 || ben e.1 p)
def putF (fs : Fs) (p : List Str) (t : Str) : Fs := if p ∈ fs.map (·.1) then fs.map (fun e => if e.1 = p then (e.1, t) else e) else fs ++ [(p, t)]
theorem putF_keys (fs : Fs) (p : List Str) (t : Str) : (putF fs p t).map (·.1) = if p ∈ fs.map (·.1) then fs.map (·.1) else fs.map (·.1) ++ [p] := by
  unfold putF
  by_cases h : p ∈ fs.map (·.1)
  · rw [if_pos h, if_pos h, List.map_map]
    refine List.map_congr_left fun e _ => ?_
    show (if e.1 = p then (e.1, t) else e).1 = e.1
    split <;> rfl
  · rw [if_neg h, if_neg h, List.map_append]
    rfl
theorem fsK_put {fs : Fs} {p : List Str} {t : Str} (hf : ∀ e ∈ fs, Nms e.1) (hp : Nms p) : putK (fsK fs) (.inr (js p)) (.str t) = fsK (putF fs p t) := by
  have key : ∀ e ∈ fs, decide ((Sum.inr (js e.1) : L2.Key) = .inr (js p)) = decide (e.1 = p) := fun e he => decide_eq_decide.mpr ⟨fun q => js_inj (hf e he) hp (Sum.inr.inj q), fun q => by rw [q]⟩
  have an : ((fsK fs).any fun kv => decide (kv.1 = (.inr (js p) : L2.Key))) = decide (p ∈ fs.map (·.1)) := by
    unfold fsK
    rw [List.any_map, Bool.eq_iff_iff, List.any_eq_true, decide_eq_true_iff, List.mem_map]
    constructor
    · rintro ⟨e, he, q⟩
      exact ⟨e, he, of_decide_eq_true ((key e he).symm.trans q)⟩
    · rintro ⟨e, he, q⟩
      exact ⟨e, he, (key e he).trans (decide_eq_true q)⟩
  unfold putK putF
  rw [an]
  by_cases h : p ∈ fs.map (·.1)
  · rw [if_pos (decide_eq_true h), if_pos h]
    unfold fsK
    rw [List.map_map, List.map_map]
    refine List.map_congr_left fun e he => ?_
    show (if (Sum.inr (js e.1) : L2.Key) = .inr (js p) then ((Sum.inr (js e.1) : L2.Key), V.str t) else (Sum.inr (js e.1), V.str e.2)) = (Sum.inr (js (if e.1 = p then (e.1, t) else e).1), V.str (if e.1 = p then (e.1, t) else e).2)
    by_cases q : e.1 = p
    · rw [if_pos q, if_pos (by rw [q])]
    · rw [if_neg q, if_neg fun z => q (of_decide_eq_true ((key e he).symm.trans (decide_eq_true z)))]
  · rw [if_neg (fun z => h (of_decide_eq_true z)), if_neg h]
    unfold fsK
    rw [List.map_append]
    rfl
structure GoodF (zs : List Str) (fs : Fs) : Prop where
  path : ∀ e ∈ fs, e.1 ≠ [] ∧ e.1.length ≤ 3 ∧ ∀ y ∈ e.1, y ∈ zs
  text : ∀ e ∈ fs, e.2 ∈ texts
  nd : (fs.map (·.1)).Nodup
  free : ∀ p ∈ fs.map (·.1), ∀ q ∈ fs.map (·.1), ben p q = false
theorem GoodF.put {zs : List Str} {fs : Fs} {p : List Str} {t : Str} (g : GoodF zs fs) (h1 : p ≠ []) (h2 : p.length ≤ 3) (h3 : ∀ y ∈ p, y ∈ zs) (ht : t ∈ texts) (r : room fs p = true) : GoodF zs (putF fs p t) := by
  have rm : ∀ q ∈ fs.map (·.1), ben p q = false ∧ ben q p = false := fun q hq => by
    obtain ⟨e, he, rfl⟩ := List.mem_map.mp hq
    unfold room at r
    rw [Bool.not_eq_true', List.any_eq_false] at r
    have := r e he
    simp only [Bool.or_eq_true, not_or, Bool.not_eq_true] at this
    exact this
  have self : ben p p = false := by
    cases q : ben p p with
    | false => rfl
    | true =>
      unfold ben at q
      rw [Bool.and_eq_true, decide_eq_true_iff] at q
      exact absurd q.2 (Nat.lt_irrefl _)
  have keys : ∀ q ∈ (putF fs p t).map (·.1), q ∈ fs.map (·.1) ∨ q = p := fun q hq => by
    rw [putF_keys] at hq
    split at hq
    · exact .inl hq
    · exact (List.mem_append.mp hq).imp id List.mem_singleton.mp
  refine ⟨fun e he => ?_, fun e he => ?_, ?_, fun a ha b hb => ?_⟩
  · rcases keys e.1 (List.mem_map_of_mem he) with q | q
    · obtain ⟨e', he', q⟩ := List.mem_map.mp q
      rw [← q]
      exact g.path e' he'
    · rw [q]
      exact ⟨h1, h2, h3⟩
  · unfold putF at he
    split at he
    · obtain ⟨e', he', rfl⟩ := List.mem_map.mp he
      split
      · exact ht
      · exact g.text e' he'
    · rcases List.mem_append.mp he with he | he
      · exact g.text e he
      · rw [List.mem_singleton.mp he]
        exact ht
  · rw [putF_keys]
    split
    · exact g.nd
    · rename_i h
      rw [List.nodup_append]
      refine ⟨g.nd, by simp, fun a ha b hb => ?_⟩
      rw [List.mem_singleton.mp hb]
      rintro rfl
      exact h ha
  · rcases keys a ha with ha1 | ea
    · rcases keys b hb with hb1 | eb
      · exact g.free a ha1 b hb1
      · rw [eb]
        exact (rm a ha1).2
    · rw [ea]
      rcases keys b hb with hb1 | eb
      · exact (rm b hb1).1
      · rw [eb]
        exact self
theorem putF_len (fs : Fs) (p : List Str) (t : Str) : (putF fs p t).length ≤ fs.length + 1 := by
  unfold putF
  split
  · rw [List.length_map]
    omega
  · rw [List.length_append]
    exact Nat.le_refl _
def spFiles : Sp := fun vs H Q _ => ∃ (st l p : Addr) (c : Nat) (zs : List Str) (most : Nat), vs = [.ref st, .ref p, .int most] ∧ Strm H st l c ∧ c ≤ 800000 ∧ Pool H st l p zs ∧ 0 < zs.length ∧ zs.length < 1000 ∧ (∀ z ∈ zs, IsNm z) ∧ most ≤ 50 ∧
  ∀ (d : Addr) (fs : Fs) (H' : Hp) (c' : Nat), H d = none → H' d = some (.dK (fsK fs)) → GoodF zs fs → fs.length ≤ most → But st l H H' → Strm H' st l c' → c' ≤ c + 1 + 5 * most → Q (.ref d) H'
def spRoom : Sp := fun vs H Q _ => ∃ d fs p, vs = [.ref d, .str (js p)] ∧ H d = some (.dK (fsK fs)) ∧ fs.length ≤ 1000 ∧ (∀ e ∈ fs, Nms e.1 ∧ e.1.length ≤ 100) ∧ Nms p ∧ p.length ≤ 100 ∧ ∀ H', Same H H' → Q (.bl (room fs p)) H'
section
variable {P : Program} {w : World} {K : PySem.W.Frag} {mg : Str → Option Value} {base : Heap} {fBe : Addr} {fdBe : FuncData}
theorem scRoom : FnScope ["_law_files_here", "_law_path_here", "_law_one"] ["_law_files_here", "_law_path_here"] (defScope sRoom) := ⟨rfl, rfl, rfl, by decide +kernel, rfl, by decide +kernel, by decide +kernel⟩
theorem ok_room {f : Addr} {fd : FuncData} (F : Fun K "_law_has_room" "_law_has_room" sRoom f fd) (T : TB mg) (aBe : At K mg "_law_beneath" fBe fdBe ["_law_path_here", "_law_other"]) (GBe : FnOk P w K mg base CX0 1 fBe fdBe ["_law_path_here", "_law_other"] spBeneath) :
    FnOk P w K mg base CX0 2 f fd ["_law_files_here", "_law_path_here"] spRoom := by
  refine F.ok scRoom (fun vs H Q E h => ?_) (fun cdv A outer s H vs Q E hr h => ?_)
  · obtain ⟨d, fs, p, rfl, _⟩ := h
    rfl
  · obtain ⟨d, fs, p, rfl, hd, fl, hf, hp, pl, k⟩ := h
    refine ⟨_, pss_one (ps_ret (pe_not (pe_callB (cr_any rfl) (by rfl) T.any boot_any (pa_cons (pe_lock (pe_lc (own := [("_law_one", 2)]) (g := gName 2) (tt := tYes) rfl scRoom.nd (pi_keys (pv 0)) (blkOk_by (own := [("_law_one", 2)]) (N := ["_law_files_here", "_law_path_here", "_law_one"]) (sc := defScope sRoom) (by decide +kernel)) (fun _ _ _ _ _ => (pg_name (i := 2) scRoom.nd rfl (Or.inl rfl))) (fun _ _ _ _ _ => pts_nil) (fun _ _ _ _ _ => (by exact (pe_or (pe_call GBe (hr.mono (by decide)) rfl aBe.m aBe.k aBe.b .nil pass0 (pa_cons (pv 1) (pa_cons (pv 2) pa_nil))) (pe_one (pe_call GBe (hr.mono (by decide)) rfl aBe.m aBe.k aBe.b .nil pass0 (pa_cons (pv 2) (pa_cons (pv 1) pa_nil))))))))) pa_nil)))), ?_⟩
    refine ⟨d, _, hd, trivial, fun od => ⟨_, rfl, d, od, rfl, .inl ⟨fsK fs, upd_same, fun D hD => ?_⟩⟩⟩
    refine lcW (walk_keys (kvs := fsK fs)) (fs.map fun e => .bl (ben p e.1 || ben e.1 p)) (by unfold fsK; rw [List.length_map, List.length_map]) (by unfold fsK; rw [List.length_map]; omega) hD (fun H' s => s _ _ upd_same) ?_ ?_
    · rintro i x y _ H3 hy s3 ⟨rfl, k0, v, hkv, rfl⟩ Q1 k1
      unfold fsK at hkv
      rw [List.getElem?_map] at hkv hy
      obtain ⟨e, he, ek⟩ := Option.map_eq_some_iff.mp hkv
      rw [he] at hy
      cases hy
      cases ek
      have hm := hf e (List.mem_of_getElem? he)
      refine ⟨_, rfl, _, rfl, p, e.1, rfl, hp, hm.1, hm.2, pl, fun H4 s4 => ⟨_, rfl, ?_⟩⟩
      have k1 : ∀ H4, Same H3 H4 → Q1 (.bl (ben p e.1 || ben e.1 p)) H4 := k1
      cases h1 : ben p e.1 with
      | true =>
        rw [h1] at k1
        exact iteT (k1 _ s4)
      | false =>
        rw [h1] at k1
        refine iteF ⟨_, rfl, _, rfl, e.1, p, rfl, hm.1, hp, pl, hm.2, fun H5 s5 => k1 _ (s4.trans s5)⟩
    · intro H1 s1 hD1
      have su : Same H (upd H1 d (.dK (fsK fs))) := fun b u hb => by
        by_cases e : b = d
        · rw [e] at hb ⊢
          rw [upd_same, ← hd]
          exact hb
        · rw [upd_ne e]
          exact s1 _ _ (by rw [upd_ne e]; exact hb)
      refine ⟨s1 _ _ upd_same, D, fs.map fun e => ben p e.1 || ben e.1 p, rfl, SqL.of ?_, _, rfl, ?_⟩
      · rw [upd_ne (fun e => by rw [e, upd_same] at hD; cases hD), hD1, List.map_map]
        rfl
      · rw [List.any_map]
        exact k _ su
theorem scFiles : FnScope ["_law_stream", "_law_pool_here", "_law_most", "_law_files_here", "_law_k", "_law_path_here"] ["_law_stream", "_law_pool_here", "_law_most"] (defScope sFiles) := ⟨rfl, rfl, rfl, by decide +kernel, rfl, by decide +kernel, by decide +kernel⟩
theorem ok_files {f fD fPa fTe fRo : Addr} {fd fdD fdPa fdTe fdRo : FuncData} (F : Fun K "_law_files" "_law_files" sFiles f fd) (T : TB mg) (aD : aD' K mg fD fdD) (GD : FnOk P w K mg base CX0 1 fD fdD ["_law_stream", "_law_many"] spDraw)
    (aPa : At K mg "_law_path" fPa fdPa ["_law_stream", "_law_pool_here", "_law_most"]) (GPa : FnOk P w K mg base CX0 3 fPa fdPa ["_law_stream", "_law_pool_here", "_law_most"] spPath)
    (aRoom : At K mg "_law_has_room" fRo fdRo ["_law_files_here", "_law_path_here"]) (GRoom : FnOk P w K mg base CX0 2 fRo fdRo ["_law_files_here", "_law_path_here"] spRoom)
    (aTe : At K mg "_law_text" fTe fdTe ["_law_stream"]) (GTe : FnOk P w K mg base CX0 2 fTe fdTe ["_law_stream"] spText) : FnOk P w K mg base CX0 4 f fd ["_law_stream", "_law_pool_here", "_law_most"] spFiles := by
  refine F.ok scFiles (fun vs H Q E h => ?_) (fun cdv A outer s H vs Q E hr h => ?_)
  · obtain ⟨st, l, p, c, zs, most, rfl, _⟩ := h
    rfl
  · obtain ⟨st, l, p, c, zs, most, rfl, S, hc, L, z0, z1, nm, hm, k⟩ := h
    have hu := hr.units
    have hu1 := Nat.lt_of_le_of_lt (Nat.add_le_add_left (show 1 ≤ 64 by decide) _) hr.units
    refine ⟨_, pss_cons (ps_set (i := 3) scFiles.nd rfl (Or.inl rfl) pe_dnewK)
            (pss_cons (ps_for PassesOwn.never rfl (pi_range1 rfl T.range (pa_cons (pe_call GD (hr.mono (by decide)) rfl aD.m aD.k aD.b .nil pass0 (pa_cons (pv 0) (pa_cons (pe_op op_add (pv 2) pe_int) pa_nil))) pa_nil)) (pg_name (i := 4) scFiles.nd rfl (Or.inl rfl)) (pss_cons (ps_set (i := 5) scFiles.nd rfl (Or.inl rfl) (pe_call GPa (hr.mono (by decide)) rfl aPa.m aPa.k aPa.b .nil pass0 (pa_cons (pv 0) (pa_cons (pv 1) (pa_cons pe_int pa_nil)))))
            (pss_one (ps_if (pt_val (pe_call GRoom (hr.mono (by decide)) rfl aRoom.m aRoom.k aRoom.b .nil pass0 (pa_cons (pv 3) (pa_cons (pv 5) pa_nil)))) (pss_one (ps_dput hu1 (pv 3) (pv 5) (pe_call GTe (hr.mono (by decide)) rfl aTe.m aTe.k aTe.b .nil pass0 (pa_cons (pv 0) pa_nil)) rfl)) (pss_nil)))))
            (pss_one (ps_ret (pv 3)))), ?_⟩
    refine fun d hd => ?_
    have nd := S.ne_new hd
    have s0 := same_mk (o := .dK []) hd
    refine ⟨_, rfl, _, rfl, _, _, rfl, rfl, st, l, c, _, rfl, S.up s0, by omega, by omega, by omega, fun n H1 n0 n1 B1 S1 => ?_⟩
    obtain ⟨n, rfl⟩ := Int.eq_ofNat_of_zero_le n0
    have d1 : H1 d = some (.dK (fsK [])) := B1 _ _ upd_same nd.1 nd.2
    refine ⟨n, rfl, by omega, by omega, for_range (lo := 0) (n := n) (fun i σ H' => ∃ x4 x5 fs c', σ = [some (.ref st), some (.ref p), some (.int most), some (.ref d), x4, x5] ∧ But st l H H' ∧ H' d = some (.dK (fsK fs)) ∧ GoodF zs fs ∧ fs.length ≤ i ∧ Strm H' st l c' ∧ c' ≤ c + 1 + 5 * i)
      ⟨none, none, [], c + 1, rfl, (But.same s0).trans B1, d1, ⟨by simp, by simp, by simp, by simp⟩, Nat.le_refl _, S1, by omega⟩ ?_ ?_⟩
    · rintro i _ H2 hi ⟨x4, x5, fs, c2, rfl, B2, h2, g, fl, S2, hc2⟩
      refine ⟨_, rfl, _, rfl, st, l, p, c2, zs, 3, rfl, S2, by omega, L.but B2, z0, z1, nm, by decide, by decide, fun ys H3 c3 y1 y3 yz B3 S3 hc3 => ?_⟩
      have hc3' : c3 ≤ c2 + 1 + 3 := hc3
      have h3 := B3 _ _ h2 nd.1 nd.2
      have ny : Nms ys := fun y hy => nm y (yz y hy)
      have yl : ys.length ≤ 3 := by omega
      have fe : ∀ e ∈ fs, Nms e.1 ∧ e.1.length ≤ 100 := fun e he => ⟨fun y hy => nm y ((g.path e he).2.2 y hy), by have := (g.path e he).2.1; omega⟩
      refine ⟨_, rfl, _, rfl, d, fs, ys, rfl, h3, by omega, fe, ny, by omega, fun H4 s4 => ⟨_, rfl, ite2 (fun hro => ?_) (fun _ => ?_)⟩⟩
      · refine ⟨_, rfl, st, l, c3, rfl, S3.up s4, by omega, fun t H5 ht B5 S5 => ?_⟩
        have h5 := B5 _ _ (s4 _ _ h3) nd.1 nd.2
        refine ⟨_, rfl, _, rfl, d, _, rfl, DPut.k (k := .inr (js ys)) h5 (Nat.lt_of_le_of_lt (show (fsK fs).length ≤ 50 by unfold fsK; rw [List.length_map]; omega) (by decide)), ?_⟩
        have hne : ys ≠ [] := by
          rintro rfl
          simp at y1
        rw [fsK_put (fun e he => (fe e he).1) ny]
        have B6 : But st l H H5 := (B2.trans (B3.trans (But.same s4))).trans B5
        refine ⟨_, _, putF fs ys t, c3 + 1, rfl, B6.put hd, upd_same, g.put hne yl yz ht hro, Nat.le_trans (putF_len fs ys t) (by omega), S5.put nd, by omega⟩
      · exact ⟨_, _, fs, c3, rfl, B2.trans (B3.trans (But.same s4)), s4 _ _ h3, g, by omega, S3.up s4, by omega⟩
    · rintro _ H2 ⟨x4, x5, fs, c2, rfl, B2, h2, g, fl, S2, hc2⟩
      exact ⟨_, rfl, k d fs H2 c2 hd h2 g (by omega) B2 S2 (by omega)⟩
end
end K3

set_option maxHeartbeats 3900000
namespace K3
open PySem PySem.Spec PyProof.Rows L2 TL
open C8 (pss_cut tCut pe_gc)
open CB
abbrev Ss := List (Str × Str)
def ssK (ss : Ss) : List (L2.Key × V) := ss.map fun e => (.inr e.1, .str e.2)
structure GoodS (zs : List Str) (ss : Ss) : Prop where
  name : ∀ e ∈ ss, e.1 ∈ zs
  text : ∀ e ∈ ss, e.2 ∈ texts
  nd : (ss.map (·.1)).Nodup
theorem ssK_put {ss : Ss} {n : Str} {t : Str} (h : n ∉ ss.map (·.1)) : putK (ssK ss) (.inr n) (.str t) = ssK (ss ++ [(n, t)]) := by
  have an : ((ssK ss).any fun kv => decide (kv.1 = (.inr n : L2.Key))) = false := by
    unfold ssK
    rw [List.any_map, List.any_eq_false]
    intro e he q
    have : e.1 = n := Sum.inr.inj (of_decide_eq_true q)
    exact h (this ▸ List.mem_map_of_mem he)
  unfold putK
  rw [an, if_neg (by decide)]
  unfold ssK
  rw [List.map_append]
  rfl
def tools : List Str := ["", "1", "2"]
def WAt (H : Hp) (x : Addr) (fs : Fs) (ss : Ss) (z : Str) : Prop := ∃ d e, H x = some (.dK [(.inr "files", .ref d), (.inr "settings", .ref e), (.inr "tool", .str z)]) ∧ H d = some (.dK (fsK fs)) ∧ H e = some (.dK (ssK ss))
theorem WAt.same {H H' : Hp} {x : Addr} {fs : Fs} {ss : Ss} {z : Str} (h : WAt H x fs ss z) (s : Same H H') : WAt H' x fs ss z := by
  obtain ⟨d, e, h1, h2, h3⟩ := h
  exact ⟨d, e, s _ _ h1, s _ _ h2, s _ _ h3⟩
theorem dk_but {H H' : Hp} {st l a : Addr} {c : Nat} {kvs : List (L2.Key × V)} (S : Strm H st l c) (B : But st l H H') (h : H a = some (.dK kvs)) : H' a = some (.dK kvs) := by
  obtain ⟨ns, u, m, ⟨g1, g2⟩, _⟩ := S.ex
  exact B _ _ h (ne_of h g1 (by intro z; cases z)) (ne_of h g2 (by intro z; cases z))
theorem cut_takeW (xs : List V) (d : Nat) : cutV xs none (some (d : Int)) = xs.take d := by
  show (xs.drop (HT.sIx xs.length 0 none)).take (HT.sIx xs.length xs.length (some (d : Int)) - HT.sIx xs.length 0 none) = xs.take d
  rw [HT.sIx_none, HT.sIx_nat, List.drop_zero, Nat.sub_zero]
  by_cases h : d ≤ xs.length
  · rw [Nat.min_eq_left h]
  · rw [Nat.min_eq_right (by omega), List.take_of_length_le (Nat.le_refl _), List.take_of_length_le (by omega)]
theorem disp3 (u v t : V) : mergeK [] [((.inr "files" : L2.Key), u), (.inr "settings", v), (.inr "tool", t)] = [(.inr "files", u), (.inr "settings", v), (.inr "tool", t)] := by rfl
def spWorld : Sp := fun vs H Q _ => ∃ (st l p : Addr) (c : Nat) (zs : List Str) (most : Nat), vs = [.ref st, .ref p, .int most] ∧ Strm H st l c ∧ c ≤ 700000 ∧ Pool H st l p zs ∧ 0 < zs.length ∧ zs.length < 1000 ∧ (∀ z ∈ zs, IsNm z) ∧ zs.Nodup ∧ most ≤ 50 ∧
  ∀ (x : Addr) (fs : Fs) (ss : Ss) (z : Str) (H' : Hp) (c' : Nat), WAt H' x fs ss z → GoodF zs fs → fs.length ≤ most → GoodS zs ss → ss.length ≤ 2 → z ∈ tools → But st l H H' → Strm H' st l c' → c' ≤ c + 6 + 5 * most → Q (.ref x) H'
section
variable {P : Program} {w : World} {K : PySem.W.Frag} {mg : Str → Option Value} {base : Heap}
theorem scWorld : FnScope ["_law_stream", "_law_pool_here", "_law_most", "_law_settings", "_law_name"] ["_law_stream", "_law_pool_here", "_law_most"] (defScope sWorld) := ⟨rfl, rfl, rfl, by decide +kernel, rfl, by decide +kernel, by decide +kernel⟩
theorem ok_world {f fD fTe fFi : Addr} {fd fdD fdTe fdFi : FuncData} (F : Fun K "_law_world" "_law_world" sWorld f fd) (T : TB mg) (aD : aD' K mg fD fdD) (GD : FnOk P w K mg base CX0 1 fD fdD ["_law_stream", "_law_many"] spDraw)
    (aFiles : At K mg "_law_files" fFi fdFi ["_law_stream", "_law_pool_here", "_law_most"]) (GFiles : FnOk P w K mg base CX0 4 fFi fdFi ["_law_stream", "_law_pool_here", "_law_most"] spFiles)
    (aTe : At K mg "_law_text" fTe fdTe ["_law_stream"]) (GTe : FnOk P w K mg base CX0 2 fTe fdTe ["_law_stream"] spText) : FnOk P w K mg base CX0 5 f fd ["_law_stream", "_law_pool_here", "_law_most"] spWorld := by
  refine F.ok scWorld (fun vs H Q E h => ?_) (fun cdv A outer s H vs Q E hr h => ?_)
  · obtain ⟨st, l, p, c, zs, most, rfl, _⟩ := h
    rfl
  · obtain ⟨st, l, p, c, zs, most, rfl, S, hc, L, z0, z1, nm, znd, hm, k⟩ := h
    have hu := hr.units
    have hu1 := Nat.lt_of_le_of_lt (Nat.add_le_add_left (show 1 ≤ 64 by decide) _) hr.units
    refine ⟨_, pss_cons (ps_set (i := 3) scWorld.nd rfl (Or.inl rfl) pe_dnewK)
            (pss_cons (ps_for PassesOwn.never rfl (pi_list (pe_slice sl_list (pv 1) po_none (po_some pe_int))) (pg_name (i := 4) scWorld.nd rfl (Or.inl rfl)) (pss_one (ps_if (pt_cmpR op_eq (pe_call GD (hr.mono (by decide)) rfl aD.m aD.k aD.b .nil pass0 (pa_cons (pv 0) (pa_cons pe_int pa_nil))) pe_int (nomark _)) (pss_one (ps_dput hu1 (pv 3) (pv 4) (pe_call GTe (hr.mono (by decide)) rfl aTe.m aTe.k aTe.b .nil pass0 (pa_cons (pv 0) pa_nil)) rfl)) (pss_nil))))
            (pss_one (ps_ret (pe_disp (pps_cons pe_str (pe_call GFiles (hr.mono (by decide)) rfl aFiles.m aFiles.k aFiles.b .nil pass0 (pa_cons (pv 0) (pa_cons (pv 1) (pa_cons (pv 2) pa_nil)))) (pps_cons pe_str (pv 3) (pps_cons pe_str (pe_ix ix_list (pe_lst (pa_cons pe_str (pa_cons pe_str (pa_cons pe_str pa_nil)))) (pe_call GD (hr.mono (by decide)) rfl aD.m aD.k aD.b .nil pass0 (pa_cons (pv 0) (pa_cons pe_int pa_nil))) (fun _ _ => rfl)) pps_nil))) rfl rfl (by simp) (by decide))))), ?_⟩
    refine fun e he => ?_
    have ne := S.ne_new he
    have s0 := same_mk (o := .dK []) he
    refine ⟨_, rfl, 2, rfl, p, _, rfl, SqL.of (s0 _ _ L.h), fun q hq => ?_⟩
    rw [show cutV (zs.map V.str) none (some (2 : Int)) = (zs.take 2).map V.str from (cut_takeW _ 2).trans List.map_take.symm]
    have nq := (S.up s0).ne_new hq
    have s1 := s0.trans (same_mk (o := .lst ((zs.take 2).map V.str)) hq)
    have qe : q ≠ e := fun z => by rw [z, upd_same] at hq; cases hq
    have lt2 : (zs.take 2).length ≤ 2 := by rw [List.length_take]; omega
    refine ⟨q, rfl, ⟨_, SqL.of upd_same⟩, for_it (walk_list (K := K) (a := q) (xs := (zs.take 2).map V.str)) (fun i σ H' => ∃ x4 ss c', σ = [some (.ref st), some (.ref p), some (.int most), some (.ref e), x4] ∧ But st l H H' ∧ H' q = some (.lst ((zs.take 2).map V.str)) ∧ H' e = some (.dK (ssK ss)) ∧ GoodS zs ss ∧ ss.length ≤ i ∧ (∀ n ∈ ss.map (·.1), n ∈ (zs.take 2).take i) ∧ Strm H' st l c' ∧ c' ≤ c + 2 * i)
      ⟨none, [], c, rfl, But.same s1, upd_same, by rw [upd_ne qe.symm]; exact upd_same, ⟨by simp, by simp, by simp⟩, Nat.le_refl _, by simp, S.up s1, by omega⟩ (fun i σ H' _ q' => by obtain ⟨_, _, _, _, _, h, _⟩ := q'; exact SqL.of h) ?_ ?_⟩
    · rintro i x _ H2 H3 hi ⟨x4, ss, c2, rfl, B2, hq2, he2, g, sl, sub, S2, hc2⟩ ⟨rfl, hx⟩
      rw [List.length_map] at hi
      rw [List.getElem?_map, List.getElem?_eq_getElem hi] at hx
      cases hx
      have hnm : (zs.take 2)[i] ∈ zs := List.mem_of_mem_take (List.getElem_mem hi)
      have tk : (zs.take 2).take (i + 1) = (zs.take 2).take i ++ [(zs.take 2)[i]] := by
        rw [List.take_succ, List.getElem?_eq_getElem hi]
        rfl
      have sub' : ∀ n ∈ ss.map (·.1), n ∈ (zs.take 2).take (i + 1) := fun n hn => by
        rw [tk]
        exact List.mem_append_left _ (sub n hn)
      have new : (zs.take 2)[i] ∉ ss.map (·.1) := fun hn => by
        obtain ⟨j, hj, ej⟩ := List.getElem_of_mem (sub _ hn)
        rw [List.getElem_take] at ej
        have hj' : j < i := by
          rw [List.length_take] at hj
          omega
        have := (List.getElem_inj (znd.sublist (List.take_sublist 2 zs))).mp ej
        omega
      refine ⟨_, rfl, st, l, c2, 2, rfl, S2, by omega, by decide, by decide, fun n H3 n0 n1 B3 S3 => ⟨rfl, _, rfl, ite2 (fun _ => ?_) (fun _ => ?_)⟩⟩
      · refine ⟨_, rfl, st, l, c2 + 1, rfl, S3, by omega, fun t H4 ht B4 S4 => ?_⟩
        have he4 := B4 _ _ (B3 _ _ he2 ne.1 ne.2) ne.1 ne.2
        have hq4 := B4 _ _ (B3 _ _ hq2 nq.1 nq.2) nq.1 nq.2
        refine ⟨_, rfl, _, rfl, e, _, rfl, DPut.k (k := .inr (zs.take 2)[i]) he4 (Nat.lt_of_le_of_lt (show (ssK ss).length ≤ 2 by unfold ssK; rw [List.length_map]; omega) (by decide)), ?_⟩
        rw [ssK_put new]
        have B5 := B2.trans (B3.trans B4)
        refine ⟨_, ss ++ [((zs.take 2)[i], t)], c2 + 2, rfl, B5.put he, by rw [upd_ne qe]; exact hq4, upd_same, ⟨fun a ha => ?_, fun a ha => ?_, ?_⟩, by rw [List.length_append]; show ss.length + 1 ≤ i + 1; omega, fun n hn => ?_, S4.put ne, by omega⟩
        · rcases List.mem_append.mp ha with h | h
          · exact g.name a h
          · rw [List.mem_singleton.mp h]; exact hnm
        · rcases List.mem_append.mp ha with h | h
          · exact g.text a h
          · rw [List.mem_singleton.mp h]; exact ht
        · rw [List.map_append, List.nodup_append]
          refine ⟨g.nd, by simp, fun a ha b hb => ?_⟩
          rw [List.mem_singleton.mp hb]
          rintro rfl
          exact new ha
        · rw [List.map_append] at hn
          rcases List.mem_append.mp hn with h | h
          · exact sub' n h
          · rw [tk, List.mem_singleton.mp h]
            exact List.mem_append_right _ (List.mem_singleton.mpr rfl)
      · exact ⟨_, ss, c2 + 1, rfl, B2.trans B3, B3 _ _ hq2 nq.1 nq.2, B3 _ _ he2 ne.1 ne.2, g, by omega, sub', S3, by omega⟩
    · rintro _ H2 ⟨x4, ss, c2, rfl, B2, hq2, he2, g, sl, sub, S2, hc2⟩
      rw [List.length_map] at sl hc2
      refine fun x hx => ?_
      have nx := S2.ne_new hx
      have sx := same_mk (o := .dK []) hx
      refine ⟨_, rfl, _, rfl, _, rfl, st, l, p, c2, zs, most, rfl, S2.up sx, by omega, (L.but B2).but (But.same sx), z0, z1, nm, hm, fun d fs H3 c3 hd hd3 gf fl B3 S3 hc3 => ?_⟩
      have hx3 := B3 _ _ (upd_same (H := H2) (a := x) (o := .dK [])) nx.1 nx.2
      have he3 := B3 _ _ (sx _ _ he2) ne.1 ne.2
      refine ⟨_, rfl, by show 3 ≤ sizeLine; decide, fun r hr' => ?_⟩
      have sr := same_mk (o := .lst [.str "", .str "1", .str "2"]) hr'
      have nr := S3.ne_new hr'
      refine ⟨_, rfl, st, l, c3, 3, rfl, S3.up sr, by omega, by decide, by decide, fun n H4 n0 n1 B4 S4 => ?_⟩
      obtain ⟨n, rfl⟩ := Int.eq_ofNat_of_zero_le n0
      have hr4 := B4 _ _ (upd_same (H := H3) (a := r) (o := .lst [.str "", .str "1", .str "2"])) nr.1 nr.2
      have hx4 := B4 _ _ (sr _ _ hx3) nx.1 nx.2
      have he4 := B4 _ _ (sr _ _ he3) ne.1 ne.2
      have hd4 := dk_but (S3.up sr) B4 (sr _ _ hd3)
      have xe : x ≠ e := fun z => by rw [z, he2] at hx; cases hx
      have xd : x ≠ d := fun z => by rw [← z, upd_same] at hd; cases hd
      have BB : But st l H (upd H4 x (.dK [(.inr "files", .ref d), (.inr "settings", .ref e), (.inr "tool", .str (tools.getD n ""))])) := by
        have b1 : But st l H H4 := B2.trans ((But.same sx).trans (B3.trans ((But.same sr).trans B4)))
        intro b u hb h1 h2
        have hbx : b ≠ x := fun z => by rw [z] at hb; rw [B2 _ _ hb (z ▸ h1) (z ▸ h2)] at hx; cases hx
        rw [upd_ne hbx]
        exact b1 b u hb h1 h2
      have fin : ∀ z, z = tools.getD n "" → z ∈ tools → Q (.ref x) (upd H4 x (.dK [(.inr "files", .ref d), (.inr "settings", .ref e), (.inr "tool", .str z)])) := fun z ez hz => by
        subst ez
        exact k x fs ss _ _ (c3 + 1) ⟨d, e, upd_same, by rw [upd_ne xd.symm]; exact hd4, by rw [upd_ne xe.symm]; exact he4⟩ gf fl g (by omega) hz BB (S4.put nx) (by omega)
      have n3 : n = 0 ∨ n = 1 ∨ n = 2 := by omega
      rcases n3 with rfl | rfl | rfl
      · exact ⟨r, _, ((0 : Nat) : Int), _, rfl, rfl, SqL.of hr4, atI_nat rfl, hx4, [(.inr "files", .ref d), (.inr "settings", .ref e), (.inr "tool", .str "")], rfl, by show 3 ≤ 15; decide, by rw [disp3]; exact fin _ rfl (by decide +kernel)⟩
      · exact ⟨r, _, ((1 : Nat) : Int), _, rfl, rfl, SqL.of hr4, atI_nat rfl, hx4, [(.inr "files", .ref d), (.inr "settings", .ref e), (.inr "tool", .str "1")], rfl, by show 3 ≤ 15; decide, by rw [disp3]; exact fin _ rfl (by decide +kernel)⟩
      · exact ⟨r, _, ((2 : Nat) : Int), _, rfl, rfl, SqL.of hr4, atI_nat rfl, hx4, [(.inr "files", .ref d), (.inr "settings", .ref e), (.inr "tool", .str "2")], rfl, by show 3 ≤ 15; decide, by rw [disp3]; exact fin _ rfl (by decide +kernel)⟩
end
end K3

set_option maxHeartbeats 3900000
namespace K3
open PySem PySem.Spec PyProof.Rows L2 TL
open C8 (pss_cut tCut pe_gc)
open CB
def rNeE : R2 := fun x y H Q => ∃ a b kvs, x = .ref a ∧ y = .ref b ∧ H a = some (.dK kvs) ∧ H b = some (.dK []) ∧ Q (.bl (!kvs.isEmpty)) H
theorem op_neE {X : Cx} (hu : X.A.units < cLine) : OpR X (compareOp .NotEq) rNeE := by
  intro pins s σ H x y v u Q I rx ry h
  obtain ⟨a, b, ks, rfl, rfl, ea, eb, q⟩ := h
  cases rx
  cases ry
  obtain ⟨_, ya, va, ra, da⟩ := (show ObjOk X.prog X.w H s.heap a (.dK ks) from I.hok a _ ea)
  obtain ⟨_, yb, vb, rb, db⟩ := (show ObjOk X.prog X.w H s.heap b (.dK []) from I.hok b _ eb)
  have l1 := ra.length
  have l2 := rb.length
  have hits : va.length = vb.length → PySem.W.KeqHits X.A.in1 s vb va true := fun e => by
    cases va with
    | nil => exact .nil
    | cons z r => rw [← l2] at e; cases e
  refine PySem.W.keq_ne (knd := mixKind X.prog X.w) (r := true) ya yb da db hu hits ⟨.bl _, H, I, rfl, ?_⟩
  have e : (va.length == vb.length && true) = ks.isEmpty := by
    rw [← l1, ← l2]
    cases ks <;> rfl
  rw [e]
  exact q
abbrev Nm := List (Str × Bool)
def nmK (fm : Nm) : List (L2.Key × V) := fm.map fun e => (.inr e.1, .str (ent e.1 e.2))
def Has (fs : Fs) (q : List Str) (n : Str) (b : Bool) : Prop := ∃ e ∈ fs, ∃ r, e.1 = q ++ n :: r ∧ b = decide (r ≠ [])
structure Fm (fs : Fs) (q : List Str) (fm : Nm) : Prop where
  nd : (fm.map (·.1)).Nodup
  has : ∀ n b, (n, b) ∈ fm ↔ Has fs q n b
def addN (fm : Nm) (n : Str) (b : Bool) : Nm := if n ∈ fm.map (·.1) then fm else fm ++ [(n, b)]
theorem nm_put {fm : Nm} {n : Str} {b : Bool} (h : ∀ c, (n, c) ∈ fm → c = b) : putK (nmK fm) (.inr n) (.str (ent n b)) = nmK (addN fm n b) := by
  have an : ((nmK fm).any fun kv => decide (kv.1 = (.inr n : L2.Key))) = decide (n ∈ fm.map (·.1)) := by
    unfold nmK
    rw [List.any_map, Bool.eq_iff_iff, List.any_eq_true, decide_eq_true_iff, List.mem_map]
    constructor
    · rintro ⟨e, he, q⟩
      exact ⟨e, he, Sum.inr.inj (of_decide_eq_true q)⟩
    · rintro ⟨e, he, q⟩
      exact ⟨e, he, decide_eq_true (by show (Sum.inr e.1 : L2.Key) = .inr n; rw [q])⟩
  unfold putK addN
  rw [an]
  by_cases hn : n ∈ fm.map (·.1)
  · rw [if_pos (decide_eq_true hn), if_pos hn]
    unfold nmK
    rw [List.map_map]
    refine List.map_congr_left fun e he => ?_
    show (if (Sum.inr e.1 : L2.Key) = .inr n then ((Sum.inr e.1 : L2.Key), V.str (ent n b)) else (Sum.inr e.1, V.str (ent e.1 e.2))) = (Sum.inr e.1, V.str (ent e.1 e.2))
    by_cases q : e.1 = n
    · have hb : e.2 = b := h e.2 (by rw [← q]; exact he)
      rw [if_pos (by rw [q]), q, hb]
    · rw [if_neg fun z => q (Sum.inr.inj z)]
  · rw [if_neg (fun z => hn (of_decide_eq_true z)), if_neg hn]
    unfold nmK
    rw [List.map_append]
    rfl
theorem has_one {zs : List Str} {fs : Fs} (g : GoodF zs fs) {q : List Str} {n : Str} {b c : Bool} (h1 : Has fs q n b) (h2 : Has fs q n c) : b = c := by
  obtain ⟨e1, m1, r1, p1, rfl⟩ := h1
  obtain ⟨e2, m2, r2, p2, rfl⟩ := h2
  have f1 := g.free _ (List.mem_map_of_mem m1) _ (List.mem_map_of_mem m2)
  have f2 := g.free _ (List.mem_map_of_mem m2) _ (List.mem_map_of_mem m1)
  by_cases a1 : r1 = []
  · by_cases a2 : r2 = []
    · rw [a1, a2]
    · have : ben e2.1 e1.1 = true := ben_iff.mpr ⟨r2, a2, by rw [p1, p2, a1]; simp⟩
      rw [this] at f2
      cases f2
  · by_cases a2 : r2 = []
    · have : ben e1.1 e2.1 = true := ben_iff.mpr ⟨r1, a1, by rw [p1, p2, a2]; simp⟩
      rw [this] at f1
      cases f1
    · rw [decide_eq_true a1, decide_eq_true a2]
theorem has_take {fs : Fs} {i : Nat} (hi : i < fs.length) {q : List Str} {n : Str} {b : Bool} : Has (fs.take (i + 1)) q n b ↔ Has (fs.take i) q n b ∨ ∃ r, fs[i].1 = q ++ n :: r ∧ b = decide (r ≠ []) := by
  have tk : fs.take (i + 1) = fs.take i ++ [fs[i]] := by
    rw [List.take_succ, List.getElem?_eq_getElem hi]
    rfl
  unfold Has
  rw [tk]
  constructor
  · rintro ⟨e, he, r, h1, h2⟩
    rcases List.mem_append.mp he with he | he
    · exact .inl ⟨e, he, r, h1, h2⟩
    · rw [List.mem_singleton.mp he] at h1
      exact .inr ⟨r, h1, h2⟩
  · rintro (⟨e, he, r, h1, h2⟩ | ⟨r, h1, h2⟩)
    · exact ⟨e, List.mem_append_left _ he, r, h1, h2⟩
    · exact ⟨fs[i], List.mem_append_right _ (List.mem_singleton.mpr rfl), r, h1, h2⟩
theorem Has.whole {fs : Fs} {i : Nat} {q : List Str} {n : Str} {b : Bool} (h : Has (fs.take i) q n b) : Has fs q n b := by
  obtain ⟨e, he, r⟩ := h
  exact ⟨e, List.mem_of_mem_take he, r⟩
theorem Fm.no {fs : Fs} {i : Nat} {q : List Str} {fm : Nm} (h : Fm (fs.take i) q fm) (hi : i < fs.length) (hb : ben fs[i].1 q = false) : Fm (fs.take (i + 1)) q fm := by
  refine ⟨h.nd, fun n b => (h.has n b).trans ⟨fun k => (has_take hi).mpr (.inl k), fun k => ?_⟩⟩
  rcases (has_take hi).mp k with k | ⟨r, h1, _⟩
  · exact k
  · have : ben fs[i].1 q = true := ben_iff.mpr ⟨n :: r, by simp, h1⟩
    rw [this] at hb
    cases hb
theorem Fm.yes {zs : List Str} {fs : Fs} (g : GoodF zs fs) {i : Nat} {q : List Str} {fm : Nm} (h : Fm (fs.take i) q fm) (hi : i < fs.length) {n : Str} {r : List Str} (he : fs[i].1 = q ++ n :: r) : Fm (fs.take (i + 1)) q (addN fm n (decide (r ≠ []))) := by
  have here : Has (fs.take (i + 1)) q n (decide (r ≠ [])) := (has_take hi).mpr (.inr ⟨r, he, rfl⟩)
  unfold addN
  by_cases hn : n ∈ fm.map (·.1)
  · rw [if_pos hn]
    obtain ⟨e, hm, en⟩ := List.mem_map.mp hn
    have hm' : (n, e.2) ∈ fm := by rw [← en]; exact hm
    have old := (h.has n e.2).mp hm'
    refine ⟨h.nd, fun m b => ⟨fun k => (has_take hi).mpr (.inl ((h.has m b).mp k)), fun k => ?_⟩⟩
    rcases (has_take hi).mp k with k | ⟨r', h1, h2⟩
    · exact (h.has m b).mpr k
    · rw [he] at h1
      have e3 := List.append_cancel_left h1
      obtain ⟨rfl, rfl⟩ := List.cons.inj e3
      have := has_one g old.whole (here.whole)
      rw [h2, ← this]
      exact hm'
  · rw [if_neg hn]
    refine ⟨?_, fun m b => ?_⟩
    · rw [List.map_append, List.nodup_append]
      refine ⟨h.nd, by simp, fun a ha c hc => ?_⟩
      rw [List.mem_singleton.mp hc]
      rintro rfl
      exact hn ha
    · rw [List.mem_append, h.has m b, has_take hi, List.mem_singleton, Prod.mk.injEq]
      constructor
      · rintro (k | ⟨rfl, rfl⟩)
        · exact .inl k
        · exact .inr ⟨r, he, rfl⟩
      · rintro (k | ⟨r', h1, h2⟩)
        · exact .inl k
        · rw [he] at h1
          obtain ⟨rfl, rfl⟩ := List.cons.inj (List.append_cancel_left h1)
          exact .inr ⟨rfl, h2⟩
theorem addN_len (fm : Nm) (n : Str) (b : Bool) : (addN fm n b).length ≤ fm.length + 1 := by
  unfold addN
  split
  · omega
  · rw [List.length_append]
    exact Nat.le_refl _
theorem perm_lift {α β : Type} {f : α → β} : ∀ {ys : List β} {l : List α}, ys.Perm (l.map f) → ∃ zs : List α, ys = zs.map f ∧ zs.Perm l
  | [], l, h => by
    have := h.length_eq
    rw [List.length_map] at this
    exact ⟨[], rfl, by rw [List.length_eq_zero_iff.mp this.symm]⟩
  | y :: ys, l, h => by
    obtain ⟨a, ha, rfl⟩ := List.mem_map.mp (h.mem_iff.mp List.mem_cons_self)
    obtain ⟨s, t, rfl⟩ := List.append_of_mem ha
    have p1 : (f a :: ys).Perm (f a :: (s ++ t).map f) := h.trans (by
      have := (List.perm_middle (a := a) (l₁ := s) (l₂ := t)).map f
      exact this)
    obtain ⟨zs, e, pz⟩ := perm_lift p1.cons_inv
    exact ⟨a :: zs, by rw [e]; rfl, (pz.cons a).trans List.perm_middle.symm⟩
theorem nm_val {fm : Nm} (nd : (fm.map (·.1)).Nodup) : ∀ e ∈ fm, valV (nmK fm) (.inr e.1) = some (.str (ent e.1 e.2)) := by
  induction fm with
  | nil => intro e he; cases he
  | cons a r ih =>
    intro e he
    rw [List.map_cons, List.nodup_cons] at nd
    unfold valV nmK
    rw [List.map_cons, List.find?_cons]
    rcases List.mem_cons.mp he with rfl | he
    · rw [show decide ((Sum.inr e.1 : L2.Key) = .inr e.1) = true from decide_eq_true rfl]
      rfl
    · have ne : a.1 ≠ e.1 := fun q => nd.1 (q ▸ List.mem_map_of_mem he)
      rw [show decide ((Sum.inr a.1 : L2.Key) = .inr e.1) = false from decide_eq_false fun q => ne (Sum.inr.inj q)]
      exact ih nd.2 e he
def spNin : Sp := fun vs H Q _ => ∃ d fs zs q, vs = [.ref d, .str (js q)] ∧ H d = some (.dK (fsK fs)) ∧ GoodF zs fs ∧ (∀ z ∈ zs, IsNm z) ∧ fs.length ≤ 50 ∧ Nms q ∧ q.length ≤ 100 ∧
  ∀ fm : Nm, Fm fs q fm → (fm = [] → q ≠ [] → ∀ H', Same H H' → Q .non H') ∧ ((fm ≠ [] ∨ q = []) → ∀ (t : Addr) (ys : Nm) (H' : Hp), Same H H' → ys.Perm fm → sortedS (ys.map (·.1)) = true → H' t = some (.tup (ys.map fun e => .str (ent e.1 e.2))) → Q (.ref t) H')
section
variable {P : Program} {w : World} {K : PySem.W.Frag} {mg : Str → Option Value} {base : Heap}
theorem scNin : FnScope ["_law_files_here", "_law_folder", "_law_found", "_law_path_here", "_law_rest", "_law_name"] ["_law_files_here", "_law_folder"] (defScope sNin) := ⟨rfl, rfl, rfl, by decide +kernel, rfl, by decide +kernel, by decide +kernel⟩
theorem ok_nin {f fBe : Addr} {fd fdBe : FuncData} (F : Fun K "_law_names_in" "_law_names_in" sNin f fd) (T : TB mg) (aBe : At K mg "_law_beneath" fBe fdBe ["_law_path_here", "_law_other"]) (GBe : FnOk P w K mg base CX0 1 fBe fdBe ["_law_path_here", "_law_other"] spBeneath) :
    FnOk P w K mg base CX0 2 f fd ["_law_files_here", "_law_folder"] spNin := by
  refine F.ok scNin (fun vs H Q E h => ?_) (fun cdv A outer s H vs Q E hr h => ?_)
  · obtain ⟨d, fs, zs, q, rfl, _⟩ := h
    rfl
  · obtain ⟨d, fs, zs, q, rfl, hd, g, nm, fl, hq, ql, k⟩ := h
    have hu := hr.units
    have hu0 := hr.units0
    have hu1 := Nat.lt_of_le_of_lt (Nat.add_le_add_left (show 1 ≤ 64 by decide) _) hr.units
    refine ⟨_, pss_cons (ps_set (i := 2) scNin.nd rfl (Or.inr rfl) pe_dnewK)
            (pss_cons (ps_lock (ps_for PassesOwn.never rfl (pi_keys (pv 0)) (pg_name (i := 3) scNin.nd rfl (Or.inl rfl)) (pss_one (ps_if (pt_val (pe_call GBe (hr.mono (by decide)) rfl aBe.m aBe.k aBe.b .nil pass0 (pa_cons (pv 3) (pa_cons (pv 1) pa_nil)))) (pss_cons (ps_set (i := 4) scNin.nd rfl (Or.inl rfl) (pe_slice sl_str (pv 3) (po_some (pe_op op_add (pe_callB call_len_str (by rfl) T.len PySem.boot_len (pa_cons (pv 1) pa_nil)) (pe_callTy call_int1 (by rfl) T.int (by decide +kernel) (pa_cons (pe_cmpR op_ne (pv 1) pe_str (nomark _)) pa_nil)))) po_none))
            (pss_cons (ps_set (i := 5) scNin.nd rfl (Or.inl rfl) (pe_ix ix_list (pe_bm PySem.F.plainAttrs_str PySem.F.slot_str_split PySem.F.type_str_split mt_split (pv 4) (pa_cons pe_str pa_nil)) pe_int (fun _ _ => rfl)))
            (pss_one (ps_dput hu1 (pv 2) (pv 5) (pe_ifExp (pt_cmpR op_eq (pv 4) (pv 5) (nomark _)) (pv 5) (pe_op op_add_str (pv 5) pe_str)) rfl)))) (pss_nil)))))
            (pss_one (ps_ret (pe_ifExp (PW.pt (pw_or (pt_cmpR (op_neE hu0) (pv 2) pe_dnewK (nomark _)) (pw_or1 (pt_cmpR op_eq (pv 1) pe_str (nomark _))))) (pe_callTy call_tuple_of (by rfl) T.tuple (by decide +kernel) (pa_cons (pe_lc (own := [("_law_name", 5)]) (g := gName 5) (tt := tYes) rfl scNin.nd (pi_list (pe_callB (call_sortedD rfl) (by rfl) T.sorted (by decide +kernel) (pa_cons (pv 2) pa_nil))) (blkOk_by (own := [("_law_name", 5)]) (N := ["_law_files_here", "_law_folder", "_law_found", "_law_path_here", "_law_rest", "_law_name"]) (sc := defScope sNin) (by decide +kernel)) (fun _ _ _ _ _ => (pg_name (i := 5) scNin.nd rfl (Or.inl rfl))) (fun _ _ _ _ _ => pts_nil) (fun _ _ _ _ _ => (by exact (pe_dget hu1 (pv 2) (pv 5) (fun _ _ => rfl))))) pa_nil)) pe_non)))), ?_⟩
    refine fun fo hfo => ?_
    have s0 := same_mk (o := .dK []) hfo
    have dfo : d ≠ fo := fun z => by rw [← z, hd] at hfo; cases hfo
    have up : ∀ H2 : Hp, (∀ b u, H b = some u → b ≠ d → H2 b = some u) → Same H (upd H2 d (.dK (fsK fs))) := fun H2 kp b u hb => by
      by_cases e : b = d
      · rw [e] at hb ⊢
        rw [upd_same, ← hd]
        exact hb
      · rw [upd_ne e]
        exact kp b u hb e
    refine ⟨d, _, s0 _ _ hd, trivial, fun od => ⟨_, rfl, d, od, rfl, .inl ⟨fsK fs, upd_same, for_it (walk_keys (kvs := fsK fs)) (fun i σ H' => ∃ x3 x4 x5 fm, σ = [some (.ref d), some (.str (js q)), some (.ref fo), x3, x4, x5] ∧ (∀ b u, H b = some u → b ≠ d → H' b = some u) ∧ H' d = some (.frz od (.dK (fsK fs))) ∧ H' fo = some (.dK (nmK fm)) ∧ Fm (fs.take i) q fm ∧ fm.length ≤ i)
      ⟨none, none, none, [], rfl, fun b u hb nb => by rw [upd_ne nb]; exact s0 _ _ hb, upd_same, by rw [upd_ne dfo.symm]; exact upd_same, ⟨by simp, by simp [Has]⟩, Nat.le_refl _⟩ (fun i σ H' _ z => by obtain ⟨_, _, _, _, _, _, h, _⟩ := z; exact h) ?_ ?_⟩⟩⟩
    · rintro i x _ H2 H3 hi ⟨x3, x4, x5, fm, rfl, kp, hd2, hf2, Fm2, fml⟩ ⟨rfl, k0, v, hkv, rfl⟩
      unfold fsK at hi
      rw [List.length_map] at hi
      unfold fsK at hkv
      rw [List.getElem?_map, List.getElem?_eq_getElem hi] at hkv
      cases hkv
      have em : fs[i] ∈ fs := List.getElem_mem hi
      obtain ⟨p0, p3, pz⟩ := g.path _ em
      have np : Nms fs[i].1 := fun y hy => nm y (pz y hy)
      refine ⟨_, rfl, _, rfl, fs[i].1, q, rfl, np, hq, ql, by omega, fun H4 s4 => ⟨_, rfl, ite2 (fun hb => ?_) (fun hb => ?_)⟩⟩
      · obtain ⟨r', hr0, er⟩ := ben_iff.mp hb
        match r', hr0, er with
        | n :: r, _, er =>
          have nr : Nms (n :: r) := fun y hy => np y (by rw [er]; exact List.mem_append_right _ hy)
          have hn : IsNm n := nr n List.mem_cons_self
          have jl1 := js_len hq
          have jl2 := js_len np
          have big : ∀ m : Nat, m ≤ 2000 → m ≤ sizeLine := fun m hm => Nat.le_trans hm (by decide)
          refine ⟨_, rfl, _, rfl, js q, rfl, big _ (by omega), _, rfl, rfl, .inr ⟨_, rfl, _, _, rfl, rfl, _, rfl, js fs[i].1, rfl, big _ (by omega), ?_⟩⟩
          have hcut : cutS (js fs[i].1) (some ((((js q).length : Nat) : Int) + (if (!decide (V.str (js q) = V.str "")) = true then 1 else 0))) none = js (n :: r) := by
            have e1 : ((((js q).length : Nat) : Int) + (if (!decide (V.str (js q) = V.str "")) = true then 1 else 0)) = (((bg q).length : Nat) : Int) := by
              rw [bg_len, dec_str, len_tl, tl_js]
              by_cases hq0 : q = []
              · subst hq0
                rfl
              · rw [if_neg hq0, beq_eq_false_iff_ne.mpr (js_ne hq hq0)]
                simp
            rw [e1, er]
            exact rest_bg q (by simp)
          rw [hcut]
          have jl3 := js_len nr
          have rl : (n :: r).length ≤ 3 := by
            rw [er, List.length_append] at p3
            omega
          refine ⟨_, rfl, rfl, js (n :: r), "/", rfl, rfl, rfl, big _ (by omega), fun l hl => ?_⟩
          rw [split_js nr (by simp)] at *
          have s5 := same_mk (o := .lst ((n :: r).map V.str)) hl
          have s45 := s4.trans s5
          refine ⟨l, _, ((0 : Nat) : Int), _, rfl, rfl, SqL.of upd_same, atI_nat rfl, ?_⟩
          have kp5 : ∀ b u, H b = some u → b ≠ d → upd H4 l (.lst ((n :: r).map V.str)) b = some u := fun b u hb nb => s45 _ _ (kp b u hb nb)
          have hd5 := s45 _ _ hd2
          have hf5 := s45 _ _ hf2
          generalize upd H4 l (.lst ((n :: r).map V.str)) = H5 at kp5 hd5 hf5 ⊢
          have lim : (nmK fm).length < sizeLine := Nat.lt_of_le_of_lt (show (nmK fm).length ≤ 50 by unfold nmK; rw [List.length_map]; omega) (by decide)
          have one : ∀ c, (n, c) ∈ fm → c = decide (r ≠ []) := fun c hc => has_one g ((Fm2.has n c).mp hc).whole ⟨fs[i], em, r, er, rfl⟩
          have fin : ∀ t, t = ent n (decide (r ≠ [])) → (∃ x3 x4 x5 fm', [some (V.ref d), some (V.str (js q)), some (V.ref fo), some (V.str (js fs[i].1)), some (V.str (js (n :: r))), some (V.str n)] = [some (V.ref d), some (.str (js q)), some (.ref fo), x3, x4, x5] ∧ (∀ b u, H b = some u → b ≠ d → upd H5 fo (.dK (putK (nmK fm) (.inr n) (.str t))) b = some u) ∧ upd H5 fo (.dK (putK (nmK fm) (.inr n) (.str t))) d = some (.frz od (.dK (fsK fs))) ∧ upd H5 fo (.dK (putK (nmK fm) (.inr n) (.str t))) fo = some (.dK (nmK fm')) ∧ Fm (fs.take (i + 1)) q fm' ∧ fm'.length ≤ i + 1) := fun t et => by
            subst et
            rw [nm_put one]
            refine ⟨_, _, _, addN fm n (decide (r ≠ [])), rfl, fun b u hb nb => ?_, by rw [upd_ne dfo]; exact hd5, upd_same, Fm2.yes g hi er, Nat.le_trans (addN_len fm n _) (by omega)⟩
            rw [upd_ne (fun e => by rw [e, hfo] at hb; cases hb)]
            exact kp5 b u hb nb
          have hsz : n.length + ("/" : Str).length ≤ sizeLine := by
            have h8 := hn.2.1
            have e1 : ("/" : Str).length = 1 := by decide +kernel
            exact big _ (by omega)
          by_cases hr1 : r = []
          · subst hr1
            refine ⟨_, rfl, _, rfl, rfl, _, rfl, ?_⟩
            rw [js_one, decide_eq_true rfl]
            refine iteT ⟨_, rfl, _, rfl, _, rfl, fo, _, rfl, DPut.k (k := .inr n) hf5 lim, ?_⟩
            have q1 := fin n rfl
            rw [js_one] at q1
            exact q1
          · refine ⟨_, rfl, _, rfl, rfl, _, rfl, ?_⟩
            rw [decide_eq_false (fun e => hr1 (List.cons.inj (js_inj nr (q := [n]) (fun y hy => by rw [List.mem_singleton.mp hy]; exact hn) ((V.str.inj e).trans (js_one n).symm))).2)]
            refine iteF ⟨_, rfl, n, "/", rfl, rfl, hsz, _, rfl, _, rfl, fo, _, rfl, DPut.k (k := .inr n) hf5 lim, ?_⟩
            exact fin (n ++ "/") (by unfold ent; rw [if_pos (decide_eq_true hr1)])
      · exact ⟨_, _, _, fm, rfl, fun b u hb' nb => s4 _ _ (kp b u hb' nb), s4 _ _ hd2, s4 _ _ hf2, Fm2.no hi (by simpa using hb), by omega⟩
    · rintro _ H2 ⟨x3, x4, x5, fm, rfl, kp, hd2, hf2, Fm2, fml⟩
      have el : (fsK fs).length = fs.length := by unfold fsK; rw [List.length_map]
      rw [el] at Fm2 fml
      rw [List.take_length] at Fm2
      have su := up H2 kp
      have hf3 : upd H2 d (.dK (fsK fs)) fo = some (.dK (nmK fm)) := by rw [upd_ne dfo.symm]; exact hf2
      refine ⟨hd2, ?_⟩
      generalize upd H2 d (.dK (fsK fs)) = H3 at su hf3 ⊢
      obtain ⟨kno, kyes⟩ := k fm Fm2
      refine ⟨_, rfl, fun p0 n0 => ⟨fo, p0, nmK fm, rfl, rfl, same_mk n0 _ _ hf3, upd_same, _, rfl, ?_⟩⟩
      have s0' := same_mk (o := .dK []) n0
      have hf4 := s0' _ _ hf3
      have su4 := su.trans s0'
      generalize upd H3 p0 (.dK []) = H4 at hf4 su4 ⊢
      have em : (nmK fm).isEmpty = decide (fm = []) := by
        cases fm with
        | nil => rfl
        | cons a r => rfl
      rw [em]
      have hkeys : (nmK fm).map (·.1) = (fm.map (·.1)).map Sum.inr := by
        unfold nmK
        rw [List.map_map, List.map_map]
        rfl
      by_cases hfm : fm = []
      · rw [decide_eq_true hfm]
        by_cases hq0 : q = []
        · refine iteF ⟨_, rfl, rfl, _, rfl, ?_⟩
          rw [show decide (V.str (js q) = V.str "") = true from decide_eq_true (by rw [hq0]; rfl)]
          refine iteT ?_
          refine ⟨_, rfl, fo, nmK fm, fm.map (·.1), rfl, .inl hf4, hkeys, by rw [List.length_map]; omega, fun ys p pm srt hp => ?_⟩
          obtain ⟨zs, rfl, pz⟩ := perm_lift pm
          have zl := pz.length_eq
          have s5 := same_mk (o := .lst ((zs.map (·.1)).map V.str)) hp
          have hl5 : upd H4 p (.lst ((zs.map (·.1)).map V.str)) p = some (.lst (zs.map fun e => V.str e.1)) := by rw [upd_same, List.map_map]; rfl
          refine ⟨p, rfl, ⟨_, SqL.of hl5⟩, fun D hD => ?_⟩
          refine lc_mapL zs (fun e => V.str e.1) (fun e => .str (ent e.1 e.2)) (by omega) hD (SqL.of hl5) (fun e he H6 s6 Q1 k1 => ?_) (fun H6 s6 hD6 => ?_)
          · have dg := DGet.k (k := .inr e.1) ((s5.trans s6) _ _ hf4)
            rw [nm_val Fm2.nd e (pz.mem_iff.mp he)] at dg
            exact ⟨_, rfl, _, rfl, fo, _, rfl, dg, k1 H6 (Same.refl H6)⟩
          · refine ⟨D, _, rfl, .inl ⟨SqL.of hD6, fun t ht => ?_⟩⟩
            exact kyes (.inr hq0) t zs _ ((su4.trans (s5.trans s6)).trans (same_mk ht)) pz srt upd_same
        · refine iteF ⟨_, rfl, rfl, _, rfl, ?_⟩
          rw [decide_eq_false fun e => js_ne hq hq0 (V.str.inj e)]
          exact iteF (kno hfm hq0 _ su4)
      · rw [decide_eq_false hfm]
        refine iteT ?_
        refine ⟨_, rfl, fo, nmK fm, fm.map (·.1), rfl, .inl hf4, hkeys, by rw [List.length_map]; omega, fun ys p pm srt hp => ?_⟩
        obtain ⟨zs, rfl, pz⟩ := perm_lift pm
        have zl := pz.length_eq
        have s5 := same_mk (o := .lst ((zs.map (·.1)).map V.str)) hp
        have hl5 : upd H4 p (.lst ((zs.map (·.1)).map V.str)) p = some (.lst (zs.map fun e => V.str e.1)) := by rw [upd_same, List.map_map]; rfl
        refine ⟨p, rfl, ⟨_, SqL.of hl5⟩, fun D hD => ?_⟩
        refine lc_mapL zs (fun e => V.str e.1) (fun e => .str (ent e.1 e.2)) (by omega) hD (SqL.of hl5) (fun e he H6 s6 Q1 k1 => ?_) (fun H6 s6 hD6 => ?_)
        · have dg := DGet.k (k := .inr e.1) ((s5.trans s6) _ _ hf4)
          rw [nm_val Fm2.nd e (pz.mem_iff.mp he)] at dg
          exact ⟨_, rfl, _, rfl, fo, _, rfl, dg, k1 H6 (Same.refl H6)⟩
        · refine ⟨D, _, rfl, .inl ⟨SqL.of hD6, fun t ht => ?_⟩⟩
          exact kyes (.inl hfm) t zs _ ((su4.trans (s5.trans s6)).trans (same_mk ht)) pz srt upd_same
end
end K3

set_option maxHeartbeats 3900000
namespace K3
open PySem PySem.Spec PyProof.Rows L2 TL
open C8 (pss_cut tCut pe_gc)
open CB
def oV : Option Str → V
  | some t => .str t
  | none => .non
def fOf (fs : Fs) (p : List Str) : Option Str := (fs.find? fun e => decide (e.1 = p)).map (·.2)
def sOf (ss : Ss) (n : Str) : Option Str := (ss.find? fun e => decide (e.1 = n)).map (·.2)
theorem fs_val {fs : Fs} (h : ∀ e ∈ fs, Nms e.1) {p : List Str} (hp : Nms p) : valV (fsK fs) (.inr (js p)) = (fOf fs p).map V.str := by
  induction fs with
  | nil => rfl
  | cons a r ih =>
    unfold valV fsK fOf
    rw [List.map_cons, List.find?_cons, List.find?_cons]
    have ha := h a List.mem_cons_self
    by_cases e : a.1 = p
    · rw [show decide ((Sum.inr (js a.1) : L2.Key) = .inr (js p)) = true from decide_eq_true (by rw [e]), decide_eq_true e]
      rfl
    · rw [show decide ((Sum.inr (js a.1) : L2.Key) = .inr (js p)) = false from decide_eq_false fun q => e (js_inj ha hp (Sum.inr.inj q)), decide_eq_false e]
      exact ih fun x hx => h x (List.mem_cons_of_mem _ hx)
theorem ss_val {ss : Ss} {n : Str} : valV (ssK ss) (.inr n) = (sOf ss n).map V.str := by
  induction ss with
  | nil => rfl
  | cons a r ih =>
    unfold valV ssK sOf
    rw [List.map_cons, List.find?_cons, List.find?_cons]
    by_cases e : a.1 = n
    · rw [show decide ((Sum.inr a.1 : L2.Key) = .inr n) = true from decide_eq_true (by rw [e]), decide_eq_true e]
      rfl
    · rw [show decide ((Sum.inr a.1 : L2.Key) = .inr n) = false from decide_eq_false fun q => e (Sum.inr.inj q), decide_eq_false e]
      exact ih
section
variable {H : Hp} {x d e : Addr} {z : Str}
theorem wd_f (h : H x = some (.dK [(.inr "files", .ref d), (.inr "settings", .ref e), (.inr "tool", .str z)])) : DGet H x (.str "files") (some (.ref d)) := DGet.k (k := .inr "files") h
theorem wd_s (h : H x = some (.dK [(.inr "files", .ref d), (.inr "settings", .ref e), (.inr "tool", .str z)])) : DGet H x (.str "settings") (some (.ref e)) := DGet.k (k := .inr "settings") h
theorem wd_t (h : H x = some (.dK [(.inr "files", .ref d), (.inr "settings", .ref e), (.inr "tool", .str z)])) : DGet H x (.str "tool") (some (.str z)) := DGet.k (k := .inr "tool") h
end
def Ans (H : Hp) (fs : Fs) (ss : Ss) (z : Str) (v : V) : Lk → Prop
  | .rd p => v = oV (fOf fs p)
  | .ls q => ∃ fm, Fm fs q fm ∧ ((fm = [] ∧ q ≠ [] ∧ v = .non) ∨ ((fm ≠ [] ∨ q = []) ∧ ∃ t ys, v = .ref t ∧ List.Perm ys fm ∧ sortedS (ys.map (·.1)) = true ∧ H t = some (.tup (ys.map fun e => .str (ent e.1 e.2)))))
  | .se n => v = oV (sOf ss n)
  | .tl => v = .str z
def LkP : Lk → Prop
  | .rd p => Nms p ∧ p.length ≤ 100
  | .ls p => Nms p ∧ p.length ≤ 100
  | .se n => IsNm n
  | .tl => True
def spShows : Sp := fun vs H Q _ => ∃ x t zs fs ss z k, vs = [.ref x, .ref t] ∧ WAt H x fs ss z ∧ H t = some (.tup (lkV k)) ∧ LkP k ∧ GoodF zs fs ∧ (∀ z ∈ zs, IsNm z) ∧ fs.length ≤ 50 ∧ ∀ v H', Same H H' → Ans H' fs ss z v k → Q v H'
section
variable {P : Program} {w : World} {K : PySem.W.Frag} {mg : Str → Option Value} {base : Heap}
theorem scShows : FnScope ["_law_w", "_law_look_here"] ["_law_w", "_law_look_here"] (defScope sShows) := ⟨rfl, rfl, rfl, by decide +kernel, rfl, by decide +kernel, by decide +kernel⟩
theorem ok_shows {f fNi : Addr} {fd fdNi : FuncData} (F : Fun K "_law_shows" "_law_shows" sShows f fd) (T : TB mg) (aNin : At K mg "_law_names_in" fNi fdNi ["_law_files_here", "_law_folder"]) (GNin : FnOk P w K mg base CX0 2 fNi fdNi ["_law_files_here", "_law_folder"] spNin) :
    FnOk P w K mg base CX0 3 f fd ["_law_w", "_law_look_here"] spShows := by
  refine F.ok scShows (fun vs H Q E h => ?_) (fun cdv A outer s H vs Q E hr h => ?_)
  · obtain ⟨x, t, zs, fs, ss, z, k, rfl, _⟩ := h
    rfl
  · have hu1 := Nat.lt_of_le_of_lt (Nat.add_le_add_left (show 1 ≤ 64 by decide) _) hr.units
    obtain ⟨x, t, zs, fs, ss, z, k, rfl, ⟨d, e, hx, hd, he⟩, ht, kp, g, nm, fl, kk⟩ := h
    refine ⟨_, pss_cons (ps_if (pt_cmpR op_eq (pe_ix ix_tup (pv 1) pe_int (fun _ _ => rfl)) pe_str (nomark _)) (pss_one (ps_ret (pe_dget1 hu1 (pe_dget hu1 (pv 0) pe_str (fun _ _ => rfl)) (pe_ix ix_tup (pv 1) pe_int (fun _ _ => rfl)) ⟨rfl, rfl, rfl, rfl⟩))) (pss_nil))
            (pss_cons (ps_if (pt_cmpR op_eq (pe_ix ix_tup (pv 1) pe_int (fun _ _ => rfl)) pe_str (nomark _)) (pss_one (ps_ret (pe_call GNin (hr.mono (by decide)) rfl aNin.m aNin.k aNin.b .nil pass0 (pa_cons (pe_dget hu1 (pv 0) pe_str (fun _ _ => rfl)) (pa_cons (pe_ix ix_tup (pv 1) pe_int (fun _ _ => rfl)) pa_nil))))) (pss_nil))
            (pss_one (ps_ret (pe_ifExp (pt_cmpR op_eq (pe_ix ix_tup (pv 1) pe_int (fun _ _ => rfl)) pe_str (nomark _)) (pe_dget1 hu1 (pe_dget hu1 (pv 0) pe_str (fun _ _ => rfl)) (pe_ix ix_tup (pv 1) pe_int (fun _ _ => rfl)) ⟨rfl, rfl, rfl, rfl⟩) (pe_dget hu1 (pv 0) pe_str (fun _ _ => rfl)))))), ?_⟩
    have e1 : ∀ a b : Str, decide (V.str a = V.str b) = decide (a = b) := fun a b => decide_eq_decide.mpr ⟨V.str.inj, fun q => by rw [q]⟩
    have nf : ∀ y ∈ fs, Nms y.1 := fun y hy w hw => nm w ((g.path y hy).2.2 w hw)
    cases k with
    | rd p =>
      refine ⟨_, rfl, t, _, ((0 : Nat) : Int), _, rfl, rfl, SqT.of ht, atI_nat rfl, rfl, _, rfl, ?_⟩
      rw [e1]
      refine iteT ⟨_, rfl, x, _, rfl, wd_f hx, d, rfl, .inl ⟨_, .inl hd⟩, _, rfl, t, _, ((1 : Nat) : Int), _, rfl, rfl, SqT.of ht, atI_nat rfl, ?_⟩
      have dg := DGet.k (k := .inr (js p)) hd
      rw [fs_val nf kp.1] at dg
      refine ⟨_, dg, ?_⟩
      have q := kk (oV (fOf fs p)) H (Same.refl H) rfl
      cases ho : fOf fs p with
      | none => rw [ho] at q; exact q
      | some y => rw [ho] at q; exact q
    | ls p =>
      refine ⟨_, rfl, t, _, ((0 : Nat) : Int), _, rfl, rfl, SqT.of ht, atI_nat rfl, rfl, _, rfl, ?_⟩
      rw [e1]
      refine iteF ⟨_, rfl, t, _, ((0 : Nat) : Int), _, rfl, rfl, SqT.of ht, atI_nat rfl, rfl, _, rfl, ?_⟩
      rw [e1]
      refine iteT ⟨_, rfl, x, _, rfl, wd_f hx, _, rfl, t, _, ((1 : Nat) : Int), _, rfl, rfl, SqT.of ht, atI_nat rfl, ?_⟩
      exact ⟨d, fs, zs, p, rfl, hd, g, nm, fl, kp.1, kp.2, fun fm hfm => ⟨fun e0 nq H' s' => kk .non H' s' ⟨fm, hfm, .inl ⟨e0, nq, rfl⟩⟩, fun why u ys H' s' pm srt hu => kk (.ref u) H' s' ⟨fm, hfm, .inr ⟨why, u, ys, rfl, pm, srt, hu⟩⟩⟩⟩
    | se n =>
      refine ⟨_, rfl, t, _, ((0 : Nat) : Int), _, rfl, rfl, SqT.of ht, atI_nat rfl, rfl, _, rfl, ?_⟩
      rw [e1]
      refine iteF ⟨_, rfl, t, _, ((0 : Nat) : Int), _, rfl, rfl, SqT.of ht, atI_nat rfl, rfl, _, rfl, ?_⟩
      rw [e1]
      refine iteF ⟨_, rfl, t, _, ((0 : Nat) : Int), _, rfl, rfl, SqT.of ht, atI_nat rfl, rfl, _, rfl, ?_⟩
      rw [e1]
      refine iteT ⟨_, rfl, x, _, rfl, wd_s hx, e, rfl, .inl ⟨_, .inl he⟩, _, rfl, t, _, ((1 : Nat) : Int), _, rfl, rfl, SqT.of ht, atI_nat rfl, ?_⟩
      have dg := DGet.k (k := .inr n) he
      rw [ss_val] at dg
      refine ⟨_, dg, ?_⟩
      have q := kk (oV (sOf ss n)) H (Same.refl H) rfl
      cases ho : sOf ss n with
      | none => rw [ho] at q; exact q
      | some y => rw [ho] at q; exact q
    | tl =>
      refine ⟨_, rfl, t, _, ((0 : Nat) : Int), _, rfl, rfl, SqT.of ht, atI_nat rfl, rfl, _, rfl, ?_⟩
      rw [e1]
      refine iteF ⟨_, rfl, t, _, ((0 : Nat) : Int), _, rfl, rfl, SqT.of ht, atI_nat rfl, rfl, _, rfl, ?_⟩
      rw [e1]
      refine iteF ⟨_, rfl, t, _, ((0 : Nat) : Int), _, rfl, rfl, SqT.of ht, atI_nat rfl, rfl, _, rfl, ?_⟩
      rw [e1]
      refine iteF ⟨_, rfl, x, _, rfl, wd_t hx, ?_⟩
      exact kk (.str z) H (Same.refl H) rfl
end
end K3

set_option maxHeartbeats 3900000
namespace K3
open PySem PySem.Spec PyProof.Rows L2 TL RP
open C8 (pss_cut tCut pe_gc)
open CB
theorem nd_len {α : Type} [DecidableEq α] : ∀ (l m : List α), l.Nodup → (∀ x ∈ l, x ∈ m) → l.length ≤ m.length
  | [], m, _, _ => Nat.zero_le _
  | a :: r, m, nd, h => by
    have ha := h a List.mem_cons_self
    have n1 := List.nodup_cons.mp nd
    have ih := nd_len r (m.erase a) n1.2 fun x hx => (List.mem_erase_of_ne fun (e : x = a) => n1.1 (by rw [← e]; exact hx)).mpr (h x (List.mem_cons_of_mem _ hx))
    rw [List.length_erase_of_mem ha] at ih
    have pos := List.length_pos_of_mem ha
    rw [List.length_cons]
    omega
theorem fOf_some {fs : Fs} {p : List Str} {t : Str} (h : fOf fs p = some t) : ∃ e ∈ fs, e.1 = p ∧ e.2 = t := by
  unfold fOf at h
  obtain ⟨e, he, rfl⟩ := Option.map_eq_some_iff.mp h
  exact ⟨e, List.mem_of_find?_eq_some he, of_decide_eq_true (List.find?_some (p := fun e : List Str × Str => decide (e.1 = p)) he), rfl⟩
theorem sOf_some {ss : Ss} {p : Str} {t : Str} (h : sOf ss p = some t) : ∃ e ∈ ss, e.1 = p ∧ e.2 = t := by
  unfold sOf at h
  obtain ⟨e, he, rfl⟩ := Option.map_eq_some_iff.mp h
  exact ⟨e, List.mem_of_find?_eq_some he, of_decide_eq_true (List.find?_some (p := fun e : Str × Str => decide (e.1 = p)) he), rfl⟩
theorem fm_len {fs : Fs} {q : List Str} {fm : Nm} (h : Fm fs q fm) : fm.length ≤ fs.length := by
  have l := nd_len (fm.map (·.1)) (fs.map fun e => e.1.getD q.length "") h.nd fun x hx => by
    obtain ⟨⟨n, b⟩, hn, rfl⟩ := List.mem_map.mp hx
    obtain ⟨e, he, r, h1, h2⟩ := (h.has n b).mp hn
    refine List.mem_map.mpr ⟨e, he, ?_⟩
    rw [h1]
    simp
  rw [List.length_map, List.length_map] at l
  exact l
theorem fm_nm {zs : List Str} {fs : Fs} {q : List Str} {fm : Nm} (h : Fm fs q fm) (g : GoodF zs fs) (nm : ∀ z ∈ zs, IsNm z) : ∀ e ∈ fm, IsNm e.1 := fun e he => by
  obtain ⟨x, hx, r, h1, h2⟩ := (h.has e.1 e.2).mp he
  exact nm _ ((g.path x hx).2.2 _ (by rw [h1]; simp))
theorem nd_of_map {ys : Nm} (h : (ys.map (·.1)).Nodup) (s : sortedS (ys.map (·.1)) = true) : ys.Pairwise (fun a b : Str × Bool => a.1.cps.toList < b.1.cps.toList) := by
  have p := sorted_pw s h
  rw [List.pairwise_map] at p
  exact p
end K3

set_option maxHeartbeats 3900000
namespace K3
open PySem PySem.Spec PyProof.Rows L2 TL RP
open C8 (pss_cut tCut pe_gc)
open CB XW MS DV FD FI
abbrev sLFirst : Stmt := top 76
def spLFirst : Sp := fun vs H Q _ => ∃ D ss, vs = [.ref D] ∧ SisL H D ss ∧ ss.length ≤ 1000 ∧ (∀ s ∈ ss, SiOk' s ∧ Sz s) ∧ ∀ v o H', Same H H' → FstAp ss o → pairV H' v o → Q v H'
def AnS : An → Prop
  | .tx z => z.length ≤ 20
  | .es l => l.length ≤ 6
  | .no => True
section
variable {P : Program} {w : World} {K : PySem.W.Frag} {mg : Str → Option Value} {base : Heap}
theorem scLFirst : FnScope ["_law_sights", "_law_k", "_law_j"] ["_law_sights"] (defScope sLFirst) := ⟨rfl, rfl, rfl, by decide +kernel, rfl, by decide +kernel, by decide +kernel⟩
theorem ok_lfirst {f fFi : Addr} {fd fdFi : FuncData} (F : Fun K "_law_first_apart" "_law_first_apart" sLFirst f fd) (T : TB mg) (aFi : At K mg "_law_fits" fFi fdFi ["_law_sights", "_law_files_here", "_law_folders"]) (GFi : FnOk P w K mg base CX0 3 fFi fdFi ["_law_sights", "_law_files_here", "_law_folders"] spFits) :
    FnOk P w K mg base CX0 4 f fd ["_law_sights"] spLFirst := by
  refine F.ok scLFirst (fun vs H Q E h => ?_) (fun cdv A outer s H vs Q E hr h => ?_)
  · obtain ⟨D, ss, rfl, _⟩ := h
    rfl
  · obtain ⟨D, ss, rfl, ⟨vs, hD, vl, hv⟩, hl, ok, k⟩ := h
    refine ⟨_, pss_cons (ps_for PassesOwn.never rfl (pi_range1 rfl T.range (pa_cons (pe_callB call_len_seq (by rfl) T.len PySem.boot_len (pa_cons (pv 0) pa_nil)) pa_nil)) (pg_name (i := 1) scLFirst.nd rfl (Or.inl rfl)) (pss_one (ps_for PassesOwn.never rfl (pi_range2 rfl T.range (pa_cons (pe_op op_add (pv 1) pe_int) (pa_cons (pe_callB call_len_seq (by rfl) T.len PySem.boot_len (pa_cons (pv 0) pa_nil)) pa_nil))) (pg_name (i := 2) scLFirst.nd rfl (Or.inl rfl)) (pss_one (ps_if (pt_not (pt_val (pe_call GFi (hr.mono (by decide)) rfl aFi.m aFi.k aFi.b .nil pass0 (pa_cons (pe_lst (pa_cons (pe_ix ix_list (pv 0) (pv 1) (fun _ _ => rfl)) (pa_cons (pe_ix ix_list (pv 0) (pv 2) (fun _ _ => rfl)) pa_nil))) (pa_cons (pe_lst pa_nil) (pa_cons (pe_lst pa_nil) pa_nil)))))) (pss_one (ps_ret (pe_tup (pa_cons (pv 1) (pa_cons (pv 2) pa_nil))))) (pss_nil))))))
            (pss_one (ps_ret pe_non)), ?_⟩
    refine ⟨_, rfl, D, _, rfl, .inl (SqL.of hD), (vs.length : Int), rfl, by omega, by omega, for_range (lo := 0) (n := vs.length) (fun i σ H' => ∃ x1 x2, σ = [some (.ref D), x1, x2] ∧ Same H H' ∧ ∀ i' j', i' < j' → i' < i → ¬ Bar ss i' j')
      ⟨_, _, rfl, Same.refl H, fun i' j' _ h => absurd h (Nat.not_lt_zero _)⟩ ?_ ?_⟩
    · rintro i _ H1 hi ⟨x1, x2, rfl, s1, before⟩
      have hc : ss[i]? = some ss[i] := List.getElem?_eq_getElem (by omega)
      have hvi : vs[i]? = some vs[i] := List.getElem?_eq_getElem hi
      rw [Int.zero_add]
      have vm : (vs.length : Int) < 2 ^ 62 := by omega
      refine ⟨_, rfl, _, _, rfl, rfl, _, rfl, D, _, rfl, .inl (SqL.of (s1 _ _ hD)), (i : Int) + 1, _, rfl, ⟨by omega, by omega, by omega, vm⟩, for_range (lo := (i : Int) + 1) (n := ((vs.length : Int) - ((i : Int) + 1)).toNat) (fun j σ H' => ∃ x2, σ = [some (.ref D), some (.int (i : Nat)), x2] ∧ Same H H' ∧ (∀ i' j', i' < j' → i' < i → ¬ Bar ss i' j') ∧ ∀ j', i < j' → j' < i + 1 + j → ¬ Bar ss i j')
        ⟨_, rfl, s1, before, fun j' h1 h2 => by omega⟩ ?_ ?_⟩
      · rintro j _ H4 hj ⟨x2, rfl, s4, before, row⟩
        have lt : i + 1 + j < vs.length := by omega
        have e2 : ss[i + 1 + j]? = some ss[i + 1 + j] := List.getElem?_eq_getElem (by omega)
        have e3 : vs[i + 1 + j]? = some vs[i + 1 + j] := List.getElem?_eq_getElem lt
        have ej : (i : Int) + 1 + (j : Int) = ((i + 1 + j : Nat) : Int) := by omega
        rw [ej]
        have m1 := List.mem_of_getElem? hc
        have m2 := List.mem_of_getElem? e2
        refine ⟨_, rfl, _, rfl, D, _, _, _, rfl, rfl, SqL.of (s4 _ _ hD), atI_nat (j := i) hvi, _, rfl, _, rfl, D, _, _, _, rfl, rfl, SqL.of (s4 _ _ hD), atI_nat (j := i + 1 + j) e3, by show 2 ≤ sizeLine; decide, fun a ha => ⟨by show 0 ≤ sizeLine; decide, fun b hb => ⟨by show 0 ≤ sizeLine; decide, fun c hc2 => ?_⟩⟩⟩
        have sa := same_mk (o := .lst [vs[i], vs[i + 1 + j]]) ha
        have sb := same_mk (o := .lst []) hb
        have sc := same_mk (o := .lst []) hc2
        have s5 := (s4.trans sa).trans (sb.trans sc)
        refine ⟨a, b, c, [ss[i], ss[i + 1 + j]], [], [], rfl, ⟨[vs[i], vs[i + 1 + j]], (sb.trans sc) _ _ upd_same, rfl, fun m v x h1 h2 => ?_⟩, fun x hx => ?_, by show 2 ≤ 20; decide, sc _ _ upd_same, (fun p hp => by cases hp), by show 0 ≤ 100; decide, upd_same, (fun p hp => by cases hp), by show 0 ≤ 100; decide, fun r H6 s6 hr => ?_⟩
        · match m, h1, h2 with
          | 0, h1, h2 =>
            cases h1
            cases h2
            exact (hv _ _ _ hvi hc).up s5
          | 1, h1, h2 =>
            cases h1
            cases h2
            exact (hv _ _ _ e3 e2).up s5
        · rcases List.mem_cons.mp hx with rfl | hx
          · exact ok _ m1
          · rw [List.mem_singleton.mp hx]
            exact ok _ m2
        have s56 := s5.trans s6
        have bf := bars_fits (ok _ m1).1.1 (ok _ m2).1.1
        refine ⟨_, rfl, ?_⟩
        by_cases bb : barsM ss[i] ss[i + 1 + j] = true
        · have r0 : r = false := by
            rw [← Bool.not_eq_true]
            exact fun z => bf.mp bb (hr.mp z)
          subst r0
          refine iteT ⟨_, rfl, _, rfl, by show 2 ≤ sizeLine; decide, fun t ht => k _ (some (i, i + 1 + j)) _ (same_ch s56 (s56.free ht)) ⟨by show i < i + 1 + j; omega, ⟨_, _, hc, e2, bb⟩, fun i' j' lt2 h => ?_⟩ ⟨t, rfl, upd_same⟩⟩
          rcases h with h | ⟨rfl, h⟩
          · exact before i' j' lt2 h
          · exact row j' lt2 h
        · have r1 : r = true := by
            rw [hr]
            exact Classical.byContradiction fun z => bb (bf.mpr z)
          subst r1
          refine iteF ⟨_, rfl, s56, before, fun j' h1 h2 => ?_⟩
          rcases Nat.lt_or_ge j' (i + 1 + j) with h3 | h3
          · exact row j' h1 h3
          · obtain rfl : j' = i + 1 + j := by omega
            rintro ⟨a, b, ha, hb, z⟩
            rw [hc] at ha
            rw [e2] at hb
            cases ha
            cases hb
            exact bb z
      · rintro σ H4 ⟨x2, rfl, s4, before, row⟩
        refine ⟨_, _, rfl, s4, fun i' j' lt h => ?_⟩
        rcases Nat.lt_or_ge i' i with h1 | h1
        · exact before i' j' lt h1
        · obtain rfl : i' = i := by omega
          intro b
          refine row j' lt ?_ b
          obtain ⟨_, z, _, hz, _⟩ := id b
          have := (List.getElem?_eq_some_iff.mp hz).1
          omega
    · rintro σ H1 ⟨x1, x2, rfl, s1, before⟩
      refine k .non none H1 s1 (fun i' j' lt b => ?_) rfl
      refine before i' j' lt ?_ b
      obtain ⟨a, _, ha, _⟩ := b
      have := (List.getElem?_eq_some_iff.mp ha).1
      omega
end
end K3

set_option maxHeartbeats 3900000
namespace K3
open PySem PySem.Spec PyProof.Rows L2 TL RP
open C8 (pss_cut tCut pe_gc)
open CB XW MS DV FD FI
theorem texts_oka : ∀ t ∈ texts, Oka t := by decide +kernel
theorem tools_oka : ∀ t ∈ tools, Oka t := by decide +kernel
theorem ans_an {H : Hp} {zs : List Str} {fs : Fs} {ss : Ss} {z : Str} {v : V} {k : Lk} (a : Ans H fs ss z v k) (ok : LkOn zs 3 k) (g : GoodF zs fs) (gs : GoodS zs ss) (nm : ∀ y ∈ zs, IsNm y) (fl : fs.length ≤ 6) (tz : z ∈ tools) :
    ∃ an, AnAt H v an ∧ AnOk k an ∧ AnW an ∧ AnS an ∧ Sz (k, an) := by
  have len : (match k with | .rd p => p.length ≤ 40 | .ls p => p.length ≤ 40 | _ => True) := by
    cases k with
    | rd p => exact Nat.le_trans ok.2.1 (by decide)
    | ls p => exact Nat.le_trans ok.1 (by decide)
    | se n => trivial
    | tl => trivial
  cases k with
  | rd p =>
    have a : v = oV (fOf fs p) := a
    cases e : fOf fs p with
    | none =>
      rw [e] at a
      exact ⟨.no, a, trivial, trivial, trivial, len, trivial⟩
    | some t =>
      rw [e] at a
      obtain ⟨x, hx, _, e2⟩ := fOf_some e
      have := texts_oka t (by rw [← e2]; exact g.text x hx)
      exact ⟨.tx t, a, trivial, this.1, this.2, len, trivial⟩
  | ls q =>
    obtain ⟨fm, hf, ⟨_, nq, rfl⟩ | ⟨ne, t, ys, rfl, pm, srt, ht⟩⟩ := a
    · exact ⟨.no, rfl, nq, trivial, trivial, len, trivial⟩
    · have l1 := fm_len hf
      have l2 := pm.length_eq
      have nms : ∀ e ∈ ys, IsNm e.1 := fun e he => fm_nm hf g nm e (pm.mem_iff.mp he)
      have nd : (ys.map (·.1)).Nodup := (pm.map (·.1)).nodup_iff.mpr hf.nd
      refine ⟨.es ys, ⟨t, rfl, ht⟩, ⟨⟨nms, ?_, by omega⟩, ?_⟩, ⟨nms, by omega⟩, (show ys.length ≤ 6 by omega), len, by show ys.length ≤ 40; omega⟩
      · rw [List.pairwise_map]
        exact nd_of_map nd srt
      · rcases ne with ne | ne
        · refine .inl fun e => ne ?_
          rw [e] at l2
          exact List.length_eq_zero_iff.mp l2.symm
        · exact .inr ne
  | se n =>
    have a : v = oV (sOf ss n) := a
    cases e : sOf ss n with
    | none =>
      rw [e] at a
      exact ⟨.no, a, trivial, trivial, trivial, trivial, trivial⟩
    | some t =>
      rw [e] at a
      obtain ⟨x, hx, _, e2⟩ := sOf_some e
      have := texts_oka t (by rw [← e2]; exact gs.text x hx)
      exact ⟨.tx t, a, trivial, this.1, this.2, trivial, trivial⟩
  | tl =>
    have a : v = .str z := a
    have := tools_oka z tz
    exact ⟨.tx z, a, trivial, this.1, this.2, trivial, trivial⟩
theorem on_ok {zs : List Str} {k : Lk} (ok : LkOn zs 3 k) (nm : ∀ y ∈ zs, IsNm y) : LkOk k := by
  cases k with
  | rd p => exact ⟨ok.1, fun y hy => nm y (ok.2.2 y hy), Nat.le_trans ok.2.1 (by decide)⟩
  | ls p => exact ⟨fun y hy => nm y (ok.2 y hy), Nat.le_trans ok.1 (by decide)⟩
  | se n => exact nm n ok
  | tl => trivial
theorem on_p {zs : List Str} {k : Lk} (ok : LkOn zs 3 k) (nm : ∀ y ∈ zs, IsNm y) : LkP k := by
  cases k with
  | rd p => exact ⟨fun y hy => nm y (ok.2.2 y hy), Nat.le_trans ok.2.1 (by decide)⟩
  | ls p => exact ⟨fun y hy => nm y (ok.2 y hy), Nat.le_trans ok.1 (by decide)⟩
  | se n => exact nm n ok
  | tl => trivial
theorem tup_but {H H' : Hp} {st l : Addr} {c : Nat} (S : Strm H st l c) (B : But st l H H') : TupS H H' := fun b xs h => B b _ h (S.tup_ne h).1 (S.tup_ne h).2
theorem wa_but {H H' : Hp} {st l x : Addr} {c : Nat} {fs : Fs} {ss : Ss} {z : Str} (h : WAt H x fs ss z) (S : Strm H st l c) (B : But st l H H') : WAt H' x fs ss z := by
  obtain ⟨ns, a, m, ⟨h1, h2⟩, _⟩ := S.ex
  have k : ∀ {b : Addr} {kv : List (L2.Key × V)}, H b = some (.dK kv) → H' b = some (.dK kv) := fun {b kv} hb => B _ _ hb (ne_of hb h1 (by intro z; cases z)) (ne_of hb h2 (by intro z; cases z))
  obtain ⟨d, e, q1, q2, q3⟩ := h
  exact ⟨d, e, k q1, k q2, k q3⟩
section
variable {P : Program} {w : World} {K : PySem.W.Frag} {mg : Str → Option Value} {base : Heap} {fD fdW : Addr} {fdD : FuncData}
end
end K3

set_option maxHeartbeats 3900000
namespace K3
open PySem PySem.Spec PyProof.Rows L2 TL
open CB
structure Sys (T D : List Str → Prop) : Prop where
  up : ∀ {p q : List Str}, D p ∨ T p → ben p q = true → q ≠ [] → D q
  root : D []
  tn : ∀ {p}, T p → Nms p ∧ p ≠ []
  dn : ∀ {p}, D p → Nms p
  dis : ∀ {p}, T p → ¬ D p
def Own (s : Lk × An) (T D : List Str → Prop) : Prop := (∀ p, TxtOf s p → T p) ∧ ∀ p, DirOf s p → D p
theorem Own.ds {s : Lk × An} {T D : List Str → Prop} (o : Own s T D) (S : Sys T D) {p : List Str} (h : Ds s p) : D p := by
  rcases h with (rfl | d) | ⟨hp, r, d | rfl | d, b⟩
  · exact S.root
  · exact o.2 p d
  · exact S.up (.inr (o.1 r d)) b hp
  · rw [ben_nil] at b
    cases b
  · exact S.up (.inl (o.2 r d)) b hp
section
variable {ss : List (Lk × An)}
end
def oA : Option Str → An
  | none => .no
  | some t => .tx t
def Tru (fs : Fs) (ss : Ss) (z : Str) : Lk × An → Prop
  | (.rd p, a) => a = oA (fOf fs p)
  | (.ls q, a) => ∃ fm, Fm fs q fm ∧ ((fm = [] ∧ q ≠ [] ∧ a = .no) ∨ ((fm ≠ [] ∨ q = []) ∧ ∃ ys, a = .es ys ∧ List.Perm ys fm ∧ sortedS (ys.map (·.1)) = true))
  | (.se n, a) => a = oA (sOf ss n)
  | (.tl, a) => a = .tx z
section
variable {zs : List Str} {fs : Fs} {ss : Ss} {z : Str}
end
end K3

set_option maxHeartbeats 3900000
namespace LE
open PySem PySem.Spec PyProof.Rows L2 TL
open C8 (pss_cut tCut pe_gc)
open CB
section
variable {X : Cx} {K0 : PySem.W.Frag}
theorem notInDK (hK : X.K = K0) (hu : X.A.units + 65 < cLine) : OpR X (compareOp .NotIn) (rNotInD K0) := by
  subst hK
  exact op_notInD hu
end
section
variable {K : PySem.W.Frag} {a D : Addr} {H1 : Hp} {σ : L2.St} {tt : TT} {te : TE} {Qd : Hp → Prop} {jk jw : Nat}
def pick (xs : List V) (p : Nat → Bool) (n : Nat) : List V := ((List.range n).filter p).map fun i => xs.getD i .non
end
end LE

set_option maxHeartbeats 3900000
namespace K3
open PySem PySem.Spec PyProof.Rows L2 TL
open CB LE
abbrev Sg := Lk × An
end K3

set_option maxHeartbeats 3900000
namespace K3
open PySem PySem.Spec PyProof.Rows L2 TL RP FI
open C8 (pss_cut tCut pe_gc)
open CB
abbrev sSame : Stmt := top 58
def spSame (K : PySem.W.Frag) : Sp := fun vs H Q _ => ∃ (v u : V) (d : PyData), vs = [v, u] ∧ Dq K H v d ∧ Dq K H u d ∧ Fine d 20 1000000 ∧ Q (.bl true) H
section
variable {P : Program} {w : World} {K : PySem.W.Frag} {mg : Str → Option Value} {base : Heap}
theorem scSame : FnScope ["_law_found", "_law_due"] ["_law_found", "_law_due"] (defScope sSame) := ⟨rfl, rfl, rfl, by decide +kernel, rfl, by decide +kernel, by decide +kernel⟩
theorem ok_same {f : Addr} {fd : FuncData} (F : Fun K "_law_same" "_law_same" sSame f fd) (mRepr : mg "repr" = none) (SM : (base.get? sysModules).isSome = true) : FnG P w K mg base CX0 1 f fd ["_law_found", "_law_due"] (spSame K) := by
  refine okG F scSame (fun vs H Q E h => ?_) (fun cdv A outer s H vs Q E hg hr h => ?_)
  · obtain ⟨v, u, d, rfl, _⟩ := h
    rfl
  · obtain ⟨v, u, d, rfl, h1, h2, fi, k⟩ := h
    have hu := hr.units
    have sz' : d.shown.length ≤ sizeLine := Nat.le_trans fi.sz (by decide)
    refine ⟨_, pss_one (ps_ret (pe_cmpR op_eq (pe_callB (call_repr SM hg hu) (by rfl) mRepr (by decide +kernel) (pa_cons (pv 0) pa_nil)) (pe_callB (call_repr SM hg hu) (by rfl) mRepr (by decide +kernel) (pa_cons (pv 1) pa_nil)) (nomark _))), ?_⟩
    refine ⟨_, rfl, v, d, rfl, h1, fi.sh, fi.dp, sz', _, rfl, u, d, rfl, h2, fi.sh, fi.dp, sz', rfl, ?_⟩
    show Q (.bl (decide (V.str d.shown = V.str d.shown))) H
    rw [decide_eq_true rfl]
    exact k
end
end K3

set_option maxHeartbeats 3900000
namespace K3
open PySem PySem.Spec PyProof.Rows L2 TL RP
open C8 (pss_cut tCut pe_gc)
open CB XW DV FD FI
def ShN (m : Nat) : Lk → Prop
  | .rd p => p.length ≤ m
  | .ls p => p.length ≤ m
  | _ => True
theorem dq_strs {K : PySem.W.Frag} {H : Hp} : ∀ l : List Str, DqAll K H (l.map V.str) (l.map PyData.str)
  | [] => .nil
  | z :: r => .cons (.str z) (dq_strs r)
theorem js_small {p : List Str} (h : Nms p) : ∀ c ∈ tl (js p), c < 128 := by
  rw [tl_js]
  exact jl_small h
theorem lkS_fine {k : Lk} (ok : LkOk k) (sh : ShN 3 k) : ∀ x ∈ (lkS k).map PyData.str, Fine x 0 302 := by
  have js27 : ∀ {p : List Str}, Nms p → p.length ≤ 3 → Fine (.str (js p)) 0 302 := fun {p} h l => (fine_str (n := 30) (fun c hc => by have := js_small h c hc; omega) (by have := js_len h; omega)).up (Nat.le_refl _) (by decide)
  have w : ∀ z ∈ (["read", "list", "setting", "tool"] : List Str), Fine (.str z) 0 302 := by
    intro z hz
    simp only [List.mem_cons, List.not_mem_nil, or_false] at hz
    rcases hz with rfl | rfl | rfl | rfl <;> exact ⟨by decide +kernel, by decide +kernel, by decide +kernel⟩
  intro x hx
  cases k with
  | rd p =>
    simp only [lkS, List.map_cons, List.map_nil, List.mem_cons, List.not_mem_nil, or_false] at hx
    rcases hx with rfl | rfl
    · exact w _ (by decide +kernel)
    · exact js27 ok.2.1 sh
  | ls p =>
    simp only [lkS, List.map_cons, List.map_nil, List.mem_cons, List.not_mem_nil, or_false] at hx
    rcases hx with rfl | rfl
    · exact w _ (by decide +kernel)
    · exact js27 ok.1 sh
  | se n =>
    simp only [lkS, List.map_cons, List.map_nil, List.mem_cons, List.not_mem_nil, or_false] at hx
    rcases hx with rfl | rfl
    · exact w _ (by decide +kernel)
    · exact (fine_str (n := 8) (fun c hc => by have := (show IsNm n from ok).2.2 c hc; omega) (show IsNm n from ok).2.1).up (Nat.le_refl _) (by decide)
  | tl =>
    simp only [lkS, List.map_cons, List.map_nil, List.mem_cons, List.not_mem_nil, or_false] at hx
    subst hx
    exact w _ (by decide +kernel)
theorem ents_dq {K : PySem.W.Frag} {H : Hp} : ∀ l : List (Str × Bool), DqAll K H (l.map entV) ((l.map fun e => ent e.1 e.2).map PyData.str)
  | [] => .nil
  | e :: r => .cons (.str _) (ents_dq r)
theorem ents_fine {l : List (Str × Bool)} (h : ∀ e ∈ l, IsNm e.1) : ∀ x ∈ (l.map fun e => ent e.1 e.2).map PyData.str, Fine x 0 92 := by
  intro x hx
  rw [List.map_map] at hx
  obtain ⟨e, he, rfl⟩ := List.mem_map.mp hx
  refine fine_str (n := 9) (fun c hc => ?_) ?_
  · rw [tl_ent] at hc
    rcases List.mem_append.mp hc with q | q
    · have := (h e he).2.2 c q
      omega
    · split at q
      · rw [List.mem_singleton.mp q]
        decide
      · cases q
  · have := (h e he).2.1
    rw [len_tl, tl_ent, List.length_append, ← len_tl]
    cases e.2 <;> simp <;> omega
theorem an_dqA {K : PySem.W.Frag} {H : Hp} {v : V} {a : An} (h : AnAt H v a) : Dq K H v (anD a) := by
  cases a with
  | no =>
    cases (show v = .non from h)
    exact .non
  | tx z =>
    cases (show v = .str z from h)
    exact .str z
  | es l =>
    obtain ⟨b, rfl, hb⟩ := h
    exact .tup hb (ents_dq l)
theorem si_dqA {K : PySem.W.Frag} {H : Hp} {v : V} {s : Lk × An} (h : SiAt H v s) : Dq K H v (siD s) := by
  obtain ⟨t, u, va, rfl, h1, h2, h3⟩ := h
  rw [lkV_S] at h2
  exact .tup h1 (.cons (.tup h2 (dq_strs _)) (.cons (an_dqA h3) .nil))
theorem sis_dqA {K : PySem.W.Frag} {H : Hp} : ∀ {vs : List V} {ss : List (Lk × An)}, vs.length = ss.length → (∀ (i : Nat) (v : V) (s : Lk × An), vs[i]? = some v → ss[i]? = some s → SiAt H v s) → DqAll K H vs (ss.map siD)
  | [], [], _, _ => .nil
  | [], _ :: _, h, _ => by cases h
  | _ :: _, [], h, _ => by cases h
  | v :: vs, s :: ss, h, a => .cons (si_dqA (a 0 v s rfl rfl)) (sis_dqA (Nat.succ.inj h) fun i v s h1 h2 => a (i + 1) v s h1 h2)
def But4 (st l R B : Addr) (H H' : Hp) : Prop := ∀ b o, H b = some o → b ≠ st → b ≠ l → b ≠ R → b ≠ B → H' b = some o
theorem But4.of {st l p B : Addr} {H H' : Hp} (h : But st l H H') : But4 st l p B H H' := fun b o e n1 n2 _ _ => h b o e n1 n2
end K3

set_option maxHeartbeats 3900000
namespace K3
open PySem PySem.Spec PyProof.Rows L2 TL
open C8 (pss_cut tCut pe_gc)
open CB XW LE LR
def Zs (H : Hp) (zs : List (V × Sg)) : Prop := ∀ z ∈ zs, SiAt H z.1 z.2
theorem Zs.up {H H' : Hp} {zs : List (V × Sg)} (h : Zs H zs) (s : Same H H') : Zs H' zs := fun z hz => (h z hz).up s
def Row (H : Hp) (v : V) (ss : List Sg) : Prop := ∃ vs', RowAt H v vs' ∧ vs'.length = ss.length ∧ (∀ (i : Nat) (x : V) (s : Sg), vs'[i]? = some x → ss[i]? = some s → SiIn H x s)
theorem Row.up {H H' : Hp} {v : V} {ss : List Sg} (h : Row H v ss) (s : Same H H') : Row H' v ss := by
  obtain ⟨vs', h1, h2, h3⟩ := h
  exact ⟨vs', h1.up s, h2, fun i x y a b => (h3 i x y a b).up s⟩
def SurV (H : Hp) (v : V) : Option An → Prop
  | none => v = .non
  | some a => ∃ t va, v = .ref t ∧ H t = some (.tup [va]) ∧ AnAt H va a
theorem SurV.up {H H' : Hp} {v : V} {o : Option An} (h : SurV H v o) (s : Same H H') : SurV H' v o := by
  cases o with
  | none => exact h
  | some a =>
    obtain ⟨t, va, e, h1, h2⟩ := h
    exact ⟨t, va, e, s _ _ h1, h2.up s⟩
section
variable {P : Program} {w : World} {K : PySem.W.Frag} {mg : Str → Option Value} {base : Heap} {CS CA CL fA fS fL : Addr} {fdA fdS fdL : FuncData}
end
end K3

set_option maxHeartbeats 3900000
namespace K3
open PySem PySem.Spec PyProof.Rows L2 TL
open C8 (pss_cut tCut pe_gc)
open CB XW LE LR
abbrev sSaw : Stmt := top 71
abbrev sTrue : Stmt := top 75
theorem erA_perm {α : Type} : ∀ (l : List α) (m : Nat) (h : m < l.length), (l[m] :: l.eraseIdx m).Perm l
  | x :: r, 0, _ => List.Perm.refl _
  | x :: r, m + 1, h => by
    have hm : m < r.length := by simpa using h
    have ih := erA_perm r m hm
    show (r[m]'hm :: x :: r.eraseIdx m).Perm (x :: r)
    exact (List.Perm.swap x (r[m]'hm) (r.eraseIdx m)).trans (List.Perm.cons x ih)
theorem erA_map {α : Type} (u : α → V) : ∀ (l : List α) (m : Nat), (l.map u).eraseIdx m = (l.eraseIdx m).map u
  | [], _ => rfl
  | _ :: _, 0 => rfl
  | x :: r, m + 1 => by
    show u x :: (r.map u).eraseIdx m = u x :: (r.eraseIdx m).map u
    rw [erA_map u r m]
def spMixedG : Sp := fun vs H Q _ => ∃ (α : Type) (u : α → V) (st l p : Addr) (c : Nat) (zs : List α), vs = [.ref st, .ref p] ∧ Strm H st l c ∧ c ≤ 900000 ∧ H p = some (.lst (zs.map u)) ∧ zs.length < 1000 ∧
  ∀ (D : Addr) (ys : List α) (H' : Hp), ys.Perm zs → H D = none → H' D = some (.lst (ys.map u)) → D ≠ st → D ≠ l → But st l H H' → Strm H' st l (c + zs.length) → Q (.ref D) H'
theorem ans_tru {H : Hp} {zs : List Str} {fs : Fs} {ss : Ss} {z : Str} {v : V} {k : Lk} (a : Ans H fs ss z v k) (ok : LkOn zs 3 k) (g : GoodF zs fs) (gs : GoodS zs ss) (nm : ∀ y ∈ zs, IsNm y) (fl : fs.length ≤ 6) (tz : z ∈ tools) :
    ∃ an, AnAt H v an ∧ AnOk k an ∧ AnW an ∧ AnS an ∧ Sz (k, an) ∧ Tru fs ss z (k, an) := by
  obtain ⟨an, h1, h2, h3, h4, h5⟩ := ans_an a ok g gs nm fl tz
  refine ⟨an, h1, h2, h3, h4, h5, ?_⟩
  have oa : ∀ o : Option Str, AnAt H (oV o) an → an = oA o := fun o h => by
    cases o with
    | none =>
      cases an with
      | no => rfl
      | tx z => cases (show V.non = .str z from h)
      | es l =>
        obtain ⟨b, e, _⟩ := h
        cases e
    | some t =>
      cases an with
      | no => cases (show V.str t = .non from h)
      | tx z =>
        cases (show V.str t = .str z from h)
        rfl
      | es l =>
        obtain ⟨b, e, _⟩ := h
        cases e
  cases k with
  | rd p =>
    have a : v = oV (fOf fs p) := a
    rw [a] at h1
    exact oa _ h1
  | se n =>
    have a : v = oV (sOf ss n) := a
    rw [a] at h1
    exact oa _ h1
  | tl =>
    have a : v = .str z := a
    rw [a] at h1
    exact oa (some z) h1
  | ls q =>
    obtain ⟨fm, hf, ⟨e1, nq, rfl⟩ | ⟨ne, t, ys, rfl, pm, srt, ht⟩⟩ := a
    · exact ⟨fm, hf, .inl ⟨e1, nq, oa none h1⟩⟩
    · refine ⟨fm, hf, .inr ⟨ne, ys, ?_, pm, srt⟩⟩
      have l1 := fm_len hf
      have l2 := pm.length_eq
      exact anAt_inj h1 ⟨t, rfl, ht⟩ h3 ⟨fun e he => fm_nm hf g nm e (pm.mem_iff.mp he), by omega⟩
def Ks (H : Hp) (zs : List (V × Lk)) : Prop := ∀ z ∈ zs, ∃ t, z.1 = .ref t ∧ H t = some (.tup (lkV z.2))
theorem lks_zip {H : Hp} {D : Addr} {ks : List Lk} (h : LksL H D ks) : ∃ zs : List (V × Lk), H D = some (.lst (zs.map Prod.fst)) ∧ zs.map Prod.snd = ks ∧ Ks H zs := by
  obtain ⟨vs, hD, hl, hv⟩ := h
  refine ⟨vs.zip ks, by rw [List.map_fst_zip (by omega)]; exact hD, List.map_snd_zip (by omega), fun z hz => ?_⟩
  obtain ⟨i, hi⟩ := List.mem_iff_getElem?.mp hz
  rw [List.getElem?_zip_eq_some] at hi
  exact hv i _ _ hi.1 hi.2
theorem Ks.tup {H H' : Hp} {zs : List (V × Lk)} (h : Ks H zs) (t : TupS H H') : Ks H' zs := fun z hz => by
  obtain ⟨a, e, h1⟩ := h z hz
  exact ⟨a, e, t _ _ h1⟩
def spSaw : Sp := fun vs H Q _ => ∃ (x D : Addr) (zs : List Str) (fs : Fs) (ss : Ss) (z : Str) (ks : List (V × Lk)), vs = [.ref x, .ref D] ∧ WAt H x fs ss z ∧ H D = some (.lst (ks.map Prod.fst)) ∧ Ks H ks ∧ ks.length ≤ 20 ∧ (∀ k ∈ ks, LkOn zs 3 k.2) ∧ GoodF zs fs ∧ GoodS zs ss ∧ (∀ y ∈ zs, IsNm y) ∧ fs.length ≤ 6 ∧ z ∈ tools ∧
  ∀ L sg H', Same H H' → SisL H' L sg → H L = none → sg.map (·.1) = ks.map Prod.snd → (∀ s ∈ sg, (SiOk' s ∧ Sz s ∧ AnS s.2) ∧ Tru fs ss z s) → Q (.ref L) H'
theorem pick_list {α : Type} (P : Nat → α → Prop) : ∀ n, (∀ i < n, ∃ a, P i a) → ∃ l : List α, l.length = n ∧ ∀ i a, l[i]? = some a → P i a
  | 0, _ => ⟨[], rfl, fun i a h => by cases h⟩
  | n + 1, h => by
    obtain ⟨l, hl, hp⟩ := pick_list P n fun i hi => h i (by omega)
    obtain ⟨a, ha⟩ := h n (by omega)
    refine ⟨l ++ [a], by rw [List.length_append, hl]; rfl, fun i b e => ?_⟩
    by_cases lt : i < l.length
    · rw [List.getElem?_append_left lt] at e
      exact hp i b e
    · rw [List.getElem?_append_right (by omega)] at e
      have := (List.getElem?_eq_some_iff.mp e).1
      rw [List.length_singleton] at this
      have ei : i = n := by omega
      rw [show i - l.length = 0 by omega] at e
      cases e
      rw [ei]
      exact ha
section
variable {P : Program} {w : World} {K : PySem.W.Frag} {mg : Str → Option Value} {base : Heap} {fD : Addr} {fdD : FuncData}
theorem ok_mixedG {f : Addr} {fd : FuncData} (F : Fun K "_law_mixed" "_law_mixed" sMixed f fd) (T : TB mg) (aD : aD' K mg fD fdD) (GD : FnOk P w K mg base CX0 1 fD fdD ["_law_stream", "_law_many"] spDraw) : FnOk P w K mg base CX0 2 f fd ["_law_stream", "_law_things"] spMixedG := by
  refine F.ok scMx (fun vs H Q E h => ?_) (fun cdv A outer s H vs Q E hr h => ?_)
  · obtain ⟨α, u0, st, l, p, c, zs, rfl, _⟩ := h
    rfl
  · obtain ⟨α, u0, st, l, p, c, zs, rfl, S, hc, hp, z1, k⟩ := h
    refine ⟨_, pss_cons (ps_set (i := 2) scMx.nd rfl (Or.inr rfl) (pe_callTy call_list_of (by rfl) T.list (by decide +kernel) (pa_cons (pv 1) pa_nil)))
            (pss_one (ps_ret (pe_lc (own := [("_law_k", 3)]) (g := gName 3) (tt := tYes) rfl scMx.nd (pi_range1 rfl T.range (pa_cons (pe_callB call_len_seq (by rfl) T.len PySem.boot_len (pa_cons (pv 2) pa_nil)) pa_nil)) (blkOk_by (own := [("_law_k", 3)]) (N := ["_law_stream", "_law_things", "_law_left", "_law_k"]) (sc := defScope sMixed) (by decide +kernel)) (fun _ _ _ _ _ => (pg_name (i := 3) scMx.nd rfl (Or.inl rfl))) (fun _ _ _ _ _ => pts_nil) (fun _ _ _ _ _ => (by exact (pe_bmK K rfl PySem.F.plainAttrs_list PySem.F.slot_list_pop PySem.F.type_list_pop mt_popAt (pv 2) (pa_cons (pe_call GD (hr.mono (by decide)) rfl aD.m aD.k aD.b .nil pass0 (pa_cons (pv 0) (pa_cons (pe_callB (len_seqK (K0 := K) rfl) (by rfl) T.len PySem.boot_len (pa_cons (pv 2) pa_nil)) pa_nil))) pa_nil))))))), ?_⟩
    refine ⟨_, rfl, p, _, rfl, .inl (SqL.of hp), fun u hu => ?_⟩
    have nu := S.ne_new hu
    have S0 := S.up (same_mk (o := .lst (zs.map u0)) hu)
    refine ⟨_, rfl, u, _, rfl, .inl (SqL.of upd_same), _, rfl, by omega, by rw [List.length_map]; omega, fun D hD => ?_⟩
    rw [List.length_map]
    have nD := S0.ne_new hD
    have uD : u ≠ D := ne_of_none upd_same hD
    have s01 : Same H (upd H u (.lst (zs.map u0))) := same_mk hu
    have hDH : H D = none := s01.free hD
    refine lc_range (lo := 0) (n := ((zs.length : Nat) : Int).toNat) (fun i H' => But st l H H' ∧ Strm H' st l (c + i) ∧ ∃ rem ys : List α, ys.length = i ∧ (ys ++ rem).Perm zs ∧ H' u = some (.lst (rem.map u0)) ∧ H' D = some (.lst (ys.map u0)))
      ⟨But.same (s01.trans (same_mk hD)), S0.up (same_mk hD), zs, [], rfl, List.Perm.refl _, by rw [upd_ne uD]; exact upd_same, upd_same⟩ ?_ ?_
    · rintro i H' hi ⟨B', S', rem, ys, hy, pm, hu', hD'⟩
      have hi' : i < zs.length := by simpa using hi
      have rl : rem.length = zs.length - i := by
        have := pm.length_eq
        rw [List.length_append] at this
        omega
      refine ⟨rfl, _, rfl, .inl ⟨rfl, _, SqL.of hu'⟩, _, rfl, _, rfl, u, _, rfl, .inl (SqL.of hu'), st, l, c + i, _, rfl, S', by omega, by rw [List.length_map]; omega, by rw [List.length_map]; omega, fun d H'' d0 d1 B'' S'' => ?_⟩
      rw [List.length_map] at d1
      obtain ⟨m, rfl⟩ := Int.eq_ofNat_of_zero_le d0
      have hm : m < rem.length := by omega
      have hu2 := B'' _ _ hu' nu.1 nu.2
      have hD2 := B'' _ _ hD' nD.1 nD.2
      have sx : seqIndex? (m : Int) (rem.map u0).length = some m := by
        rw [List.length_map]
        have h0 : ¬ ((m : Int) < 0) := by omega
        simp [seqIndex?, h0, hm]
      refine ⟨u, _, m, m, u0 rem[m], rfl, rfl, hu2, by omega, by omega, sx, by rw [List.getElem?_map, List.getElem?_eq_getElem hm]; rfl, _, by rw [upd_ne uD.symm]; exact hD2, ?_, ?_, ?_, rem.eraseIdx m, ys ++ [rem[m]], ?_, ?_, ?_, ?_⟩
      · rw [List.length_map, hy]
        exact Nat.lt_of_lt_of_le (show i < 1000 by omega) (by decide)
      · intro b o hb n1 n2
        by_cases e1 : b = D
        · rw [e1, hDH] at hb
          cases hb
        · rw [upd_ne e1]
          by_cases e2 : b = u
          · rw [e2, hu] at hb
            cases hb
          · rw [upd_ne e2]
            exact B'' _ _ (B' _ _ hb n1 n2) n1 n2
      · exact (S''.put nu).put nD
      · rw [List.length_append, hy]
        rfl
      · rw [List.append_assoc]
        exact (List.Perm.append_left ys (erA_perm rem m hm)).trans pm
      · rw [upd_ne uD, upd_same, erA_map]
      · rw [upd_same, List.map_append]
        rfl
    · rintro H' ⟨B', S', rem, ys, hy, pm, hu', hD'⟩
      have hy' : ys.length = zs.length := by simpa using hy
      have rl : rem.length = 0 := by
        have := pm.length_eq
        rw [List.length_append] at this
        omega
      rw [List.length_eq_zero_iff.mp rl, List.append_nil] at pm
      exact k D ys H' pm hDH hD' nD.1 nD.2 B' (by simpa using S')
theorem scSaw : FnScope ["_law_w", "_law_looks_here", "_law_look_here"] ["_law_w", "_law_looks_here"] (defScope sSaw) := ⟨rfl, rfl, rfl, by decide +kernel, rfl, by decide +kernel, by decide +kernel⟩
theorem ok_saw {f fS : Addr} {fd fdS : FuncData} (F : Fun K "_law_saw" "_law_saw" sSaw f fd) (T : TB mg) (aShows : At K mg "_law_shows" fS fdS ["_law_w", "_law_look_here"]) (GShows : FnOk P w K mg base CX0 3 fS fdS ["_law_w", "_law_look_here"] spShows) : FnOk P w K mg base CX0 4 f fd ["_law_w", "_law_looks_here"] spSaw := by
  refine F.ok scSaw (fun vs H Q E h => ?_) (fun cdv A outer s H vs Q E hr h => ?_)
  · obtain ⟨x, D, zs, fs, ss, z, ks, rfl, _⟩ := h
    rfl
  · obtain ⟨x, D, zs, fs, ss, z, ks, rfl, wa, hD, hk, kl, kon, g, gs, nm, fl, tz, fin⟩ := h
    refine ⟨_, pss_one (ps_ret (pe_lc (own := [("_law_look_here", 2)]) (g := gName 2) (tt := tYes) rfl scSaw.nd (pi_list (pv 1)) (blkOk_by (own := [("_law_look_here", 2)]) (N := ["_law_w", "_law_looks_here", "_law_look_here"]) (sc := defScope sSaw) (by decide +kernel)) (fun _ _ _ _ _ => (pg_name (i := 2) scSaw.nd rfl (Or.inl rfl))) (fun _ _ _ _ _ => pts_nil) (fun _ _ _ _ _ => (by exact (pe_tup (pa_cons (pv 2) (pa_cons (pe_call GShows (hr.mono (by decide)) rfl aShows.m aShows.k aShows.b .nil pass0 (pa_cons (pv 0) (pa_cons (pv 2) pa_nil))) pa_nil))))))), ?_⟩
    refine ⟨_, rfl, D, rfl, ⟨_, SqL.of hD⟩, fun L hL => ?_⟩
    have lk : ks.length < 1000000 := by omega
    refine lcR (walk_list (K := K) (a := D) (xs := ks.map Prod.fst)) (fun i v H' => ∃ (zk : V × Lk) (an : An), ks[i]? = some zk ∧ SiAt H' v (zk.2, an) ∧ ((SiOk' (zk.2, an) ∧ Sz (zk.2, an) ∧ AnS an) ∧ Tru fs ss z (zk.2, an))) ?_ (by rw [List.length_map]; exact lk) hL (fun H' s => SqL.of (s _ _ hD)) ?_ ?_
    · rintro i v H1 H2 bd ⟨zk, an, e, h1, h2⟩
      exact ⟨zk, an, e, h1.tup bd, h2⟩
    · rintro i v H2 _ hi s2 ⟨rfl, hx⟩ Q1 q1
      rw [List.length_map] at hi
      have ek : ks[i]? = some ks[i] := List.getElem?_eq_getElem hi
      rw [List.getElem?_map, ek] at hx
      cases hx
      have hm : ks[i] ∈ ks := List.getElem_mem hi
      obtain ⟨t, et, ht⟩ := hk _ hm
      have on := kon _ hm
      have ht2 := s2 _ _ ht
      refine ⟨_, rfl, _, rfl, _, rfl, x, t, zs, fs, ss, z, ks[i].2, congrArg (fun u => [V.ref x, u]) et, wa.same s2, ht2, on_p on nm, g, nm, by omega, fun v H3 s3 an => ⟨by show 2 ≤ sizeLine; decide, fun q hq => ?_⟩⟩
      obtain ⟨a, ha, h1, h2, h3, h4, h5⟩ := ans_tru an on g gs nm fl tz
      have s4 := same_mk (o := .tup [ks[i].1, v]) hq
      have ok := on_ok on nm
      exact q1 _ _ (s3.trans s4) ⟨ks[i], a, ek, ⟨q, t, v, rfl, by rw [upd_same, et], s4 _ _ (s3 _ _ ht2), ha.up s4⟩, ⟨⟨⟨ok, h1⟩, ok.w, h2⟩, h4, h3⟩, h5⟩
    · intro ys H2 yl s2 hL2 hr
      rw [List.length_map] at yl
      obtain ⟨sg, sl, hs⟩ := pick_list (fun i (s : Sg) => ∃ (y : V) (zk : V × Lk), ys[i]? = some y ∧ ks[i]? = some zk ∧ s.1 = zk.2 ∧ SiAt H2 y s ∧ ((SiOk' s ∧ Sz s ∧ AnS s.2) ∧ Tru fs ss z s)) ys.length fun i hi => by
        have ey : ys[i]? = some ys[i] := List.getElem?_eq_getElem hi
        obtain ⟨zk, an, e, h1, h2⟩ := hr i _ ey
        exact ⟨(zk.2, an), ys[i], zk, ey, e, rfl, h1, h2⟩
      refine fin L sg H2 s2 ⟨ys, hL2, sl.symm, fun i v s h1 h2 => ?_⟩ hL ?_ fun s hm => ?_
      · obtain ⟨y, zk, e1, _, _, h3, _⟩ := hs i s h2
        rw [h1] at e1
        cases e1
        exact h3
      · refine List.ext_getElem? fun i => ?_
        rw [List.getElem?_map, List.getElem?_map]
        cases e : sg[i]? with
        | some s =>
          obtain ⟨y, zk, _, e2, e3, _⟩ := hs i s e
          rw [e2]
          exact congrArg some e3
        | none =>
          have := List.getElem?_eq_none_iff.mp e
          rw [List.getElem?_eq_none (by omega)]
          rfl
      · obtain ⟨i, hi⟩ := List.getElem?_of_mem hm
        obtain ⟨_, _, _, _, _, _, h⟩ := hs i s hi
        exact h
end
end K3

set_option maxHeartbeats 3900000
namespace K3
open PySem PySem.Spec PyProof.Rows L2 TL
open C8 (pss_cut tCut pe_gc)
open CB XW LE LR
theorem SisL.len {H : Hp} {D : Addr} {ss : List Sg} {xs : List V} (h : SisL H D ss) (hD : H D = some (.lst xs)) : xs.length = ss.length := by
  obtain ⟨vs, e, vl, _⟩ := h
  rw [hD] at e
  cases e
  exact vl
section
variable {P : Program} {w : World} {K : PySem.W.Frag} {mg : Str → Option Value} {base : Heap} {fD : Addr} {fdD : FuncData}
end
end K3

set_option maxHeartbeats 3900000
namespace K3
open PySem PySem.Spec PyProof.Rows L2 TL
open C8 (pss_cut tCut pe_gc)
open CB XW LE LR
def spTrue : Sp := fun vs H Q _ => ∃ (st l p : Addr) (c : Nat) (zs : List Str) (many : Int), vs = [.ref st, .ref p, .int many] ∧ Strm H st l c ∧ c ≤ 500000 ∧ Pool H st l p zs ∧ zs.Nodup ∧ 0 < zs.length ∧ zs.length < 20 ∧ (∀ z ∈ zs, IsNm z) ∧ 0 ≤ many ∧ many ≤ 12 ∧
  ∀ T x L fs ss z sg H' c', H' T = some (.tup [.ref x, .ref L]) → SisL H' L sg → (sg.length : Int) ≤ many → (sg.map (·.1)).Nodup → (∀ s ∈ sg, (SiOk' s ∧ Sz s ∧ AnS s.2) ∧ Tru fs ss z s) → (∀ s ∈ sg, LkOn zs 3 s.1) → WAt H' x fs ss z → GoodF zs fs → fs.length ≤ 6 → GoodS zs ss → ss.length ≤ 2 → z ∈ tools → H L = none → But st l H H' → Strm H' st l c' → c' ≤ c + 200 → Q (.ref T) H'
theorem any_lk {k : Lk} (h : LkW k) : ∀ {l : List Lk}, (∀ t ∈ l, LkW t) → ((l.map lkD).any fun z => z.eqv (lkD k)) = decide (k ∈ l)
  | [], _ => by simp
  | t :: l, w => by
    rw [List.map_cons, List.any_cons, any_lk h fun x hx => w x (List.mem_cons_of_mem t hx), eqv_lk (w t List.mem_cons_self) h]
    by_cases e : t = k
    · subst e
      simp
    · have e2 : ¬ k = t := fun z => e z.symm
      simp [e, e2]
theorem ks_dp {K : PySem.W.Frag} {H : Hp} {D : Addr} {zs : List (V × Lk)} (hD : H D = some (.lst (zs.map Prod.fst))) (hk : Ks H zs) : Dp K H (.ref D) (.list ((zs.map Prod.snd).map lkD)) := by
  refine .lst (SqL.of hD) ?_
  clear hD
  induction zs with
  | nil => exact .nil
  | cons z r ih =>
    obtain ⟨t, e, h⟩ := hk z List.mem_cons_self
    refine .cons ?_ (ih fun y hy => hk y (List.mem_cons_of_mem z hy))
    rw [e]
    exact lk_dp h
theorem ks_shaped {l : List Lk} (h : ∀ k ∈ l, LkW k) : SeqAt.shaped (.list (l.map lkD)) = true := by
  have lay : ∀ {l : List Lk}, (∀ k ∈ l, LkW k) → PyData.canLayAll0 (l.map lkD) = true := by
    intro l
    induction l with
    | nil => intro _; simp [PyData.canLayAll0]
    | cons k r ih =>
      intro h
      have h1 := siD_lay (s := (k, .no)) ⟨h k List.mem_cons_self, trivial⟩
      have h2 := ih fun x hx => h x (List.mem_cons_of_mem k hx)
      simp only [siD, PyData.canLay0, PyData.canLayAll0, Bool.and_eq_true] at h1
      simp [PyData.canLayAll0, h1.1, h2]
  have dep : ∀ l : List Lk, PyData.depthAll (l.map lkD) ≤ 3 := by
    intro l
    induction l with
    | nil => simp [PyData.depthAll]
    | cons k r ih =>
      have h1 := siD_dep (k, .no)
      simp only [siD, PyData.depth, PyData.depthAll] at h1
      simp only [List.map_cons, PyData.depthAll]
      omega
  refine shaped_mk (by simp only [PyData.canLay0]; exact lay h) ?_
  have := dep l
  simp only [PyData.depth]
  omega
section
variable {P : Program} {w : World} {K : PySem.W.Frag} {mg : Str → Option Value} {base : Heap} {fD : Addr} {fdD : FuncData}
theorem scTrue : FnScope ["_law_stream", "_law_pool_here", "_law_many", "_law_w", "_law_looks_here", "_law_path_here", "_law_look_here"] ["_law_stream", "_law_pool_here", "_law_many"] (defScope sTrue) := ⟨rfl, rfl, rfl, by decide +kernel, rfl, by decide +kernel, by decide +kernel⟩
theorem ok_true {f fW fL fM fS : Addr} {fd fdW fdL fdM fdS : FuncData} (F : Fun K "_law_true_sights" "_law_true_sights" sTrue f fd) (T : TB mg)
    (aWorld : At K mg "_law_world" fW fdW ["_law_stream", "_law_pool_here", "_law_most"]) (GWorld : FnOk P w K mg base CX0 5 fW fdW ["_law_stream", "_law_pool_here", "_law_most"] spWorld)
    (aLooks : At K mg "_law_looks" fL fdL ["_law_stream", "_law_pool_here", "_law_many"]) (GLooks : FnOk P w K mg base CX0 5 fL fdL ["_law_stream", "_law_pool_here", "_law_many"] spLooks)
    (aMixed : At K mg "_law_mixed" fM fdM ["_law_stream", "_law_things"]) (GMixed : FnOk P w K mg base CX0 2 fM fdM ["_law_stream", "_law_things"] spMixedG)
    (aSaw : At K mg "_law_saw" fS fdS ["_law_w", "_law_looks_here"]) (GSaw : FnOk P w K mg base CX0 4 fS fdS ["_law_w", "_law_looks_here"] spSaw) : FnOk P w K mg base CX0 6 f fd ["_law_stream", "_law_pool_here", "_law_many"] spTrue := by
  refine F.ok scTrue (fun vs H Q E h => ?_) (fun cdv A outer s H vs Q E hr h => ?_)
  · obtain ⟨st, l, p, c, zs, many, rfl, _⟩ := h
    rfl
  · obtain ⟨st, l, p, c, zs, many, rfl, S, hc, L, znd, z0, z1, nm, m0, m1, k⟩ := h
    have hu := hr.units
    have hu1 := hu_of hr
    have hu5 := hr.un
    have hu5 : (A.deeper (envOfC "_law_true_sights" (defScope sTrue) s.heap.objs.size f cdv)).units + 65 < cLine := by omega
    refine ⟨_, pss_cons (ps_set (i := 3) scTrue.nd rfl (Or.inl rfl) (pe_call GWorld (hr.mono (by decide)) rfl aWorld.m aWorld.k aWorld.b .nil pass0 (pa_cons (pv 0) (pa_cons (pv 1) (pa_cons pe_int pa_nil)))))
            (pss_cons (ps_set (i := 4) scTrue.nd rfl (Or.inr rfl) (pe_call GLooks (hr.mono (by decide)) rfl aLooks.m aLooks.k aLooks.b .nil pass0 (pa_cons (pv 0) (pa_cons (pv 1) (pa_cons (pv 2) pa_nil)))))
            (pss_cons (ps_for PassesOwn.never rfl (pi_list (pe_slice sl_list (pe_call GMixed (hr.mono (by decide)) rfl aMixed.m aMixed.k aMixed.b .nil pass0 (pa_cons (pv 0) (pa_cons (pe_callTy (call_list_dK rfl) (by rfl) T.list (by decide +kernel) (pa_cons (pe_dget hu1 (pv 3) pe_str (fun _ _ => rfl)) pa_nil)) pa_nil))) po_none (po_some pe_int))) (pg_name (i := 5) scTrue.nd rfl (Or.inl rfl)) (pss_one (ps_expr (pe_bm PySem.F.plainAttrs_list PySem.F.slot_list_extend PySem.F.type_list_extend mt_extend (pv 4) (pa_cons (pe_lc (own := [("_law_look_here", 6)]) (g := gName 6) (tt := _) rfl scTrue.nd (pi_list (pe_lst (pa_cons (pe_tup (pa_cons pe_str (pa_cons (pv 5) pa_nil))) (pa_cons (pe_tup (pa_cons pe_str (pa_cons (pe_ix ix_list (pe_bm PySem.F.plainAttrs_str PySem.F.slot_str_split PySem.F.type_str_split mt_split (pv 5) (pa_cons pe_str pa_nil)) pe_int (fun _ _ => rfl)) pa_nil))) pa_nil)))) (blkOk_by (own := [("_law_look_here", 6)]) (N := ["_law_stream", "_law_pool_here", "_law_many", "_law_w", "_law_looks_here", "_law_path_here", "_law_look_here"]) (sc := defScope sTrue) (by decide +kernel)) (fun _ _ _ _ _ => (pg_name (i := 6) scTrue.nd rfl (Or.inl rfl))) (fun _ _ _ _ _ => (by exact pts_one (pt_cmpR (LE.notInDK (K0 := K) rfl hu5) (pv 6) (pv 4) (by rfl)))) (fun _ _ _ _ _ => (by exact (pv 6)))) pa_nil)))))
            (pss_one (ps_ret (pe_tup (pa_cons (pv 3) (pa_cons (pe_call GSaw (hr.mono (by decide)) rfl aSaw.m aSaw.k aSaw.b .nil pass0 (pa_cons (pv 3) (pa_cons (pe_slice sl_list (pe_call GMixed (hr.mono (by decide)) rfl aMixed.m aMixed.k aMixed.b .nil pass0 (pa_cons (pv 0) (pa_cons (pv 4) pa_nil))) po_none (po_some (pv 2))) pa_nil))) pa_nil))))))), ?_⟩
    refine ⟨_, rfl, _, rfl, st, l, p, c, zs, 6, rfl, S, by omega, L, z0, by omega, nm, znd, by decide, fun x fs ss z H1 c1 wa g fl gs sl tz B1 S1 hc1 => ?_⟩
    have L1 := L.but B1
    refine ⟨_, rfl, _, rfl, _, rfl, st, l, p, c1, zs, many, rfl, S1, by omega, L1, z0, by omega, nm, m0, by omega, fun G ks H2 c2 kl kon knd hG0 hG B2 S2 hc2 => ?_⟩
    have wa2 := wa_but wa S1 B2
    obtain ⟨kz, hkz, rfl, hks⟩ := lks_zip hG
    have nG := S1.ne_new hG0
    obtain ⟨d, e, w1, w2, w3⟩ := id wa2
    have ekeys : ((fsK fs).map fun kv => kV kv.1) = (fs.map (·.1)).map pV := by
      unfold fsK
      rw [List.map_map, List.map_map]
      rfl
    refine ⟨_, rfl, _, rfl, x, _, rfl, wd_f w1, d, fsK fs, rfl, w2, fun l1 hl1 => ?_⟩
    rw [ekeys]
    have s3 := same_mk (o := .lst ((fs.map (·.1)).map pV)) hl1
    have S3 := S2.up s3
    refine ⟨List Str, pV, st, l, l1, c2, fs.map (·.1), rfl, S3, by omega, upd_same, by rw [List.length_map]; omega, fun M ys H4 pm hM0 hM nM1 nM2 B4 S4 => ?_⟩
    have yl : ys.length = fs.length := by rw [pm.length_eq, List.length_map]
    refine ⟨_, rfl, M, _, rfl, SqL.of hM, fun W hW => ?_⟩
    have ecut : cutV (ys.map pV) none (some 2) = (ys.take 2).map pV := by
      rw [show (2 : Int) = ((2 : Nat) : Int) from rfl, cut_take, List.map_take]
    rw [ecut]
    have s5 := same_mk (o := .lst ((ys.take 2).map pV)) hW
    have S5 := S4.up s5
    have B25 : But st l H2 (upd H4 W (.lst ((ys.take 2).map pV))) := fun b o hb n1 n2 => s5 _ _ (B4 _ _ (s3 _ _ hb) n1 n2)
    have hW5 := upd_same (H := H4) (a := W) (o := .lst ((ys.take 2).map pV))
    have hG5 := B25 _ _ hkz nG.1 nG.2
    have hks5 : Ks (upd H4 W (.lst ((ys.take 2).map pV))) kz := hks.tup (tup_but S2 B25)
    have GW : G ≠ W := fun e => by
      have := B4 _ _ (s3 _ _ hkz) nG.1 nG.2
      rw [e, hW] at this
      cases this
    have nW := S4.ne_new hW
    generalize upd H4 W (.lst ((ys.take 2).map pV)) = H5 at s5 S5 B25 hW5 hG5 hks5
    have kl2 : kz.length ≤ 12 := by
      rw [List.length_map] at kl
      omega
    have tkl : (ys.take 2).length ≤ 2 := by rw [List.length_take]; omega
    refine ⟨W, rfl, ⟨_, SqL.of hW5⟩, for_it (walk_list (K := K) (a := W) (xs := (ys.take 2).map pV)) (fun i σ H' => ∃ x5 x6 ks, σ = [some (.ref st), some (.ref p), some (.int many), some (.ref x), some (.ref G), x5, x6] ∧ (∀ b o, H5 b = some o → b ≠ G → H' b = some o) ∧ H' G = some (.lst (ks.map Prod.fst)) ∧ Ks H' ks ∧ ks.length ≤ 12 + 2 * i ∧ (∀ z ∈ ks, LkOn zs 3 z.2) ∧ (ks.map Prod.snd).Nodup ∧ Strm H' st l (c2 + (fs.map (·.1)).length))
      ⟨_, _, kz, rfl, fun b o h _ => h, hG5, hks5, by omega, fun z hz => kon _ (List.mem_map_of_mem hz), knd, S5⟩ (fun i σ H' _ m => by obtain ⟨_, _, _, _, m, _⟩ := m; exact SqL.of (m _ _ hW5 (Ne.symm GW))) ?_ ?_⟩
    · rintro i y _ _ H6 hi ⟨x5, x6, ks, rfl, R6, hG6, hk6, kl6, on6, nd6, S6⟩ ⟨rfl, hy⟩
      rw [List.length_map] at hi
      rw [List.getElem?_map, List.getElem?_eq_getElem hi] at hy
      cases hy
      have hm : (ys.take 2)[i] ∈ fs.map (·.1) := pm.mem_iff.mp (List.mem_of_mem_take (List.getElem_mem hi))
      generalize (ys.take 2)[i] = q at hm
      obtain ⟨ef, hef, eq⟩ := List.mem_map.mp hm
      obtain ⟨g1, g2, g3⟩ := g.path ef hef
      rw [show ef.1 = q from eq] at g1 g2 g3
      have qn : Nms q := fun y hy => nm y (g3 y hy)
      obtain ⟨n, r, rfl⟩ : ∃ n r, q = n :: r := by
        cases q with
        | nil => exact absurd rfl g1
        | cons n r => exact ⟨n, r, rfl⟩
      refine ⟨_, rfl, .inl ⟨rfl, _, SqL.of hG6⟩, _, rfl, by show 2 ≤ sizeLine; decide, fun a ha => ?_⟩
      have sa := same_mk (o := .tup [.str "read", pV (n :: r)]) ha
      have shq := js_sh qn (Nat.le_trans g2 (by decide))
      refine ⟨_, rfl, rfl, js (n :: r), "/", rfl, rfl, rfl, ?_, fun u hu => ?_⟩
      · unfold Sh at shq
        exact Nat.le_trans (show (js (n :: r)).length + 2 ≤ 1002 by omega) (by decide)
      rw [split_js qn (by simp)]
      have su := same_mk (o := .lst ((n :: r).map V.str)) hu
      refine ⟨u, _, 0, .str n, rfl, rfl, SqL.of upd_same, atI_nat (j := 0) rfl, by show 2 ≤ sizeLine; decide, fun b hb => ⟨by show 2 ≤ sizeLine; decide, fun X0 hX => ?_⟩⟩
      have sb := same_mk (o := .tup [.str "list", .str n]) hb
      have sX := same_mk (o := .lst [.ref a, .ref b]) hX
      have ha9 := (su.trans (sb.trans sX)) _ _ (upd_same (H := H6) (a := a) (o := .tup [.str "read", pV (n :: r)]))
      have hb9 := sX _ _ (upd_same (a := b) (o := .tup [.str "list", .str n]))
      have s9 := sa.trans (su.trans (sb.trans sX))
      have hX9 := upd_same (H := upd (upd (upd H6 a (.tup [.str "read", pV (n :: r)])) u (.lst ((n :: r).map V.str))) b (.tup [.str "list", .str n])) (a := X0) (o := .lst [.ref a, .ref b])
      refine ⟨X0, rfl, ⟨_, SqL.of upd_same⟩, fun R hR => ?_⟩
      have S9 := ((S6.up sa).up su |>.up sb).up sX
      generalize upd (upd (upd (upd H6 a (.tup [.str "read", pV (n :: r)])) u (.lst ((n :: r).map V.str))) b (.tup [.str "list", .str n])) X0 (.lst [.ref a, .ref b]) = H9 at ha9 hb9 s9 hR hX9 S9 ⊢
      have hkk : Ks H9 [(.ref a, .rd (n :: r)), (.ref b, .ls [n])] := fun z hz => by
        rcases List.mem_cons.mp hz with rfl | hz
        · exact ⟨a, rfl, ha9⟩
        · rw [List.mem_singleton.mp hz]
          exact ⟨b, rfl, by rw [hb9, ← js_one n]; rfl⟩
      have onk : ∀ z ∈ [((.ref a : V), Lk.rd (n :: r)), (.ref b, .ls [n])], LkOn zs 3 z.2 := fun z hz => by
        rcases List.mem_cons.mp hz with rfl | hz
        · exact ⟨by simp, g2, g3⟩
        · rw [List.mem_singleton.mp hz]
          exact ⟨by show 1 ≤ 3; decide, fun y hy => by rw [List.mem_singleton.mp hy]; exact g3 n List.mem_cons_self⟩
      have ndk : ([((.ref a : V), Lk.rd (n :: r)), (.ref b, .ls [n])].map Prod.snd).Nodup := by simp
      have lnk : [((.ref a : V), Lk.rd (n :: r)), (.ref b, .ls [n])].length = 2 := rfl
      have hXk : H9 X0 = some (.lst ([((.ref a : V), Lk.rd (n :: r)), (.ref b, .ls [n])].map Prod.fst)) := hX9
      generalize [((.ref a : V), Lk.rd (n :: r)), (.ref b, .ls [n])] = nw at hkk onk ndk lnk hXk
      have hG9 := s9 _ _ hG6
      have hk9 := hk6.tup (TupS.of s9)
      have w6 : ∀ k ∈ ks.map Prod.snd, LkW k := fun k hk => by
        obtain ⟨z, hz, rfl⟩ := List.mem_map.mp hk
        exact lkOn_w nm (by decide) (on6 z hz)
      refine lcFM (walk_list (K := K) (a := X0) (xs := nw.map Prod.fst)) nw Prod.fst Prod.fst (fun z => decide (z.2 ∉ ks.map Prod.snd)) (by rw [List.length_map]) (by rw [List.length_map]; omega) (fun i H x H' y => y) hR (fun H' s => SqL.of (s _ _ hXk)) ?_ ?_ ?_
      · intro z hz2 H10 s10 Q1 q1
        obtain ⟨t, e, ht⟩ := hkk z hz2
        have wz := lkOn_w nm (by decide) (onk z hz2)
        refine ⟨_, rfl, _, rfl, lkD z.2, (ks.map Prod.snd).map lkD, by rw [e]; exact lk_dp (s10 _ _ ht), ks_dp (s10 _ _ hG9) (hk9.tup (TupS.of s10)), lkD_shaped wz, ks_shaped w6, ?_⟩
        rw [any_lk wz w6]
        refine ⟨_, rfl, ?_⟩
        have := q1 H10 (Same.refl _)
        rw [show decide (z.2 ∉ ks.map Prod.snd) = !decide (z.2 ∈ ks.map Prod.snd) by simp] at this
        exact this
      · intro z hz2 _ H10 s10 Q1 q1
        exact ⟨_, rfl, q1 H10 (Same.refl _)⟩
      intro H10 s10 hR10
      have hG10 := s10 _ _ hG9
      have s610 := s9.trans s10
      have fsub : ∀ z ∈ nw.filter fun z => decide (z.2 ∉ ks.map Prod.snd), z ∈ nw := fun z hz => (List.mem_filter.mp hz).1
      have fnew : ∀ z ∈ nw.filter fun z => decide (z.2 ∉ ks.map Prod.snd), z.2 ∉ ks.map Prod.snd := fun z hz => by simpa using (List.mem_filter.mp hz).2
      have fl2 : (nw.filter fun z => decide (z.2 ∉ ks.map Prod.snd)).length ≤ 2 := by rw [← lnk]; exact List.length_filter_le _ _
      have fnd : ((nw.filter fun z => decide (z.2 ∉ ks.map Prod.snd)).map Prod.snd).Nodup := List.Nodup.sublist (List.filter_sublist.map _) ndk
      generalize (nw.filter fun z => decide (z.2 ∉ ks.map Prod.snd)) = kp at hR10 fsub fnew fl2 fnd
      have T10 : TupS H10 (upd H10 G (.lst (ks.map Prod.fst ++ kp.map Prod.fst))) := tupS_put hG10 fun xs z => by cases z
      refine ⟨G, R, _, _, rfl, rfl, hG10, hR10, ?_, _, _, ks ++ kp, rfl, fun b o hb nb => ?_, by rw [upd_same, List.map_append], fun z hz => ?_, ?_, fun z hz => ?_, ?_, ?_⟩
      · rw [List.length_map, List.length_map]
        exact Nat.le_trans (show ks.length + kp.length ≤ 100 by omega) (by decide)
      · rw [upd_ne nb]
        exact s610 _ _ (R6 b o hb nb)
      · rcases List.mem_append.mp hz with hz | hz
        · exact (hk9.tup (TupS.trans (TupS.of s10) T10)) z hz
        · exact (hkk.tup (TupS.trans (TupS.of s10) T10)) z (fsub z hz)
      · rw [List.length_append]
        omega
      · rcases List.mem_append.mp hz with hz | hz
        · exact on6 z hz
        · exact onk z (fsub z hz)
      · rw [List.map_append, List.nodup_append]
        refine ⟨nd6, fnd, fun x hx y hy e => ?_⟩
        obtain ⟨zk, hz, rfl⟩ := List.mem_map.mp hy
        exact fnew zk hz (e ▸ hx)
      · exact (S9.up s10).put nG
    · rintro _ H6 ⟨x5, x6, ks, rfl, R6, hG6, hk6, kl6, on6, nd6, S6⟩
      rw [List.length_map] at kl6
      have B26 : But st l H H6 := fun b o hb n1 n2 => by
        have h2 := B2 _ _ (B1 _ _ hb n1 n2) n1 n2
        refine R6 _ _ (B25 _ _ h2 n1 n2) fun e => ?_
        have := B1 _ _ hb n1 n2
        rw [e, hG0] at this
        cases this
      have wa5 : WAt H5 x fs ss z := wa_but wa2 S2 B25
      have wa6 : WAt H6 x fs ss z := by
        have kk : ∀ {b : Addr} {kv : List (L2.Key × V)}, H5 b = some (.dK kv) → H6 b = some (.dK kv) := fun {b kv} hb => R6 _ _ hb (ne_of hb hG5 (by intro z; cases z))
        obtain ⟨d, e, q1, q2, q3⟩ := wa5
        exact ⟨d, e, kk q1, kk q2, kk q3⟩
      refine ⟨_, rfl, _, rfl, _, rfl, _, rfl, V × Lk, Prod.fst, st, l, G, c2 + (fs.map (·.1)).length, ks, rfl, S6, by rw [List.length_map]; omega, hG6, by omega, fun M2 ks2 H7 pm2 hM2 hM7 n1 n2 B7 S7 => ?_⟩
      refine ⟨_, rfl, _, rfl, M2, _, rfl, SqL.of hM7, fun W2 hW2 => ?_⟩
      obtain ⟨m, rfl⟩ := Int.eq_ofNat_of_zero_le m0
      rw [cut_take, ← List.map_take]
      have s8 := same_mk (o := .lst ((ks2.take m).map Prod.fst)) hW2
      have hW8 := upd_same (H := H7) (a := W2) (o := .lst ((ks2.take m).map Prod.fst))
      have B68 : But st l H6 (upd H7 W2 (.lst ((ks2.take m).map Prod.fst))) := fun b o hb n1 n2 => s8 _ _ (B7 _ _ hb n1 n2)
      have S8 := S7.up s8
      generalize upd H7 W2 (.lst ((ks2.take m).map Prod.fst)) = H8 at s8 hW8 B68 S8 ⊢
      have T68 := tup_but S6 B68
      have wa8 := wa_but wa6 S6 B68
      have sub : ∀ z ∈ ks2.take m, z ∈ ks := fun z hz => pm2.mem_iff.mp (List.mem_of_mem_take hz)
      have tl : (ks2.take m).length ≤ m := by rw [List.length_take]; omega
      refine ⟨x, W2, zs, fs, ss, z, ks2.take m, rfl, wa8, hW8, fun z hz => (hk6.tup T68) z (sub z hz), by omega, fun z hz => on6 z (sub z hz), g, gs, nm, fl, tz, fun L2 sg H9 s9 hL9 hL80 em hsg => ⟨by show 2 ≤ sizeLine; decide, fun t ht => ?_⟩⟩
      have s10 := same_mk (o := .tup [V.ref x, .ref L2]) ht
      have esl : sg.length = (ks2.take m).length := by
        have := congrArg List.length em
        rw [List.length_map, List.length_map] at this
        exact this
      have B8 : But st l H H8 := fun b o hb n1 n2 => B68 _ _ (B26 _ _ hb n1 n2) n1 n2
      have HL : H L2 = none := by
        cases e : H L2 with
        | none => rfl
        | some o =>
          have nL := S8.ne_new hL80
          have := B8 _ _ e nL.1 nL.2
          rw [hL80] at this
          cases this
      refine k t x L2 fs ss z sg _ _ upd_same (hL9.up s10) (by omega) ?_ hsg (fun s hs => ?_) ((wa8.same s9).same s10) g fl gs sl tz HL (fun b o hb n1 n2 => s10 _ _ (s9 _ _ (B8 _ _ hb n1 n2))) ((S8.up s9).up s10) ?_
      · rw [em]
        refine List.Nodup.sublist ?_ ((pm2.map Prod.snd).nodup_iff.mpr nd6)
        rw [List.map_take]
        exact List.take_sublist m _
      · have : s.1 ∈ (ks2.take m).map Prod.snd := by
          rw [← em]
          exact List.mem_map_of_mem hs
        obtain ⟨zk, hz, e⟩ := List.mem_map.mp this
        rw [← e]
        exact on6 zk (sub zk hz)
      · rw [List.length_map]
        have := m1
        have c6 : (6 : Nat) * (m : Int).toNat ≤ 72 := by omega
        omega
end
end K3

set_option maxHeartbeats 3900000
namespace K3
open PySem PySem.Spec PyProof.Rows L2 TL
def mkS (l : List Nat) : Str := ⟨l.toArray⟩
theorem tl_mkS (l : List Nat) : tl (mkS l) = l := rfl
theorem starts_cons (c : Nat) (l : List Nat) : Txt.startswith (mkS (c :: l)) (mkS [c]) = true := by
  unfold Txt.startswith Builtin.Str.subAt mkS
  simp [Str.length]
theorem starts_ne {c d : Nat} (l : List Nat) (h : d ≠ c) : Txt.startswith (mkS (d :: l)) (mkS [c]) = false := by
  unfold Txt.startswith Builtin.Str.subAt mkS
  simp [Str.length, h]
theorem ends_snoc (c : Nat) (l : List Nat) : Txt.endswith (mkS (l ++ [c])) (mkS [c]) = true := by
  unfold Txt.endswith Builtin.Str.subAt mkS
  simp [Str.length]
theorem cut_mid (a b : Nat) (l : List Nat) : cutS (mkS (a :: (l ++ [b]))) (some 1) (some (-1)) = mkS l := by
  have e : ∀ n : Nat, HT.sIx (n + 2) 0 (some 1) = 1 ∧ HT.sIx (n + 2) (n + 2) (some (-1)) = n + 1 := by
    intro n
    unfold HT.sIx
    constructor
    · simp <;> omega
    · simp <;> omega
  unfold cutS mkS
  have hl : (⟨(a :: (l ++ [b])).toArray⟩ : Str).length = l.length + 2 := by simp [Str.length]
  rw [hl, (e _).1, (e _).2]
  simp
theorem mem_joinL {S : List Nat} {c : Nat} : ∀ {ps : List (List Nat)}, c ∈ joinL S ps → c ∈ S ∨ ∃ p ∈ ps, c ∈ p
  | [], h => by simp [joinL] at h
  | [p], h => by
    have h : c ∈ p := by simpa [joinL] using h
    exact .inr ⟨p, List.mem_cons_self, h⟩
  | p :: q :: r, h => by
    have h : c ∈ p ++ (S ++ joinL S (q :: r)) := by simpa [joinL] using h
    rcases List.mem_append.mp h with h | h
    · exact .inr ⟨p, List.mem_cons_self, h⟩
    · rcases List.mem_append.mp h with h | h
      · exact .inl h
      · rcases mem_joinL h with h | ⟨x, hx, hc⟩
        · exact .inl h
        · exact .inr ⟨x, List.mem_cons_of_mem _ hx, hc⟩
theorem tl_tjoin (y : Str) (ps : List Str) : tl (Txt.join y ps) = joinL (tl y) (ps.map tl) := by rw [join_eq, tl_join]
theorem js_chars {p : List Str} (h : Nms p) : ∀ c ∈ tl (js p), c = 47 ∨ (97 ≤ c ∧ c ≤ 122) := fun c hc => by
  rw [tl_tjoin, tl_sl] at hc
  rcases mem_joinL hc with h1 | ⟨x, hx, hc⟩
  · exact .inl (List.mem_singleton.mp h1)
  · obtain ⟨y, hy, rfl⟩ := List.mem_map.mp hx
    exact .inr ((h y hy).2.2 c hc)
def whT : Lk → Str
  | .rd p => js p
  | .ls p => if p = [] then "/" else js p
  | .se n => n
  | .tl => ""
def wdT : Lk → Str
  | .rd _ => "read"
  | .ls _ => "list"
  | .se _ => "setting"
  | .tl => "tool"
def lkT (k : Lk) : Str := if k = .tl then "tool" else wdT k ++ " " ++ whT k
def anT : An → Str
  | .no => "-"
  | .tx z => "\"" ++ z ++ "\""
  | .es l => "(" ++ Txt.join " " (l.map fun e => ent e.1 e.2) ++ ")"
def lineT (s : Sg) : Str := lkT s.1 ++ " : " ++ anT s.2
def endT (y : Str) : Str := "end" ++ " : " ++ anT (.tx y)
def runT (sg : List Sg) (y : Str) : Str := Txt.join "\n" (sg.map lineT ++ [endT y])
def GoodA : An → Prop
  | .no => True
  | .tx z => 10 ∉ tl z ∧ z.length ≤ 1000
  | .es l => (∀ e ∈ l, IsNm e.1) ∧ l.length ≤ 40
theorem lk_chars {k : Lk} (h : LkOk k) : ∀ c ∈ tl (lkT k), c = 32 ∨ c = 47 ∨ (97 ≤ c ∧ c ≤ 122) := by
  have w : ∀ k, ∀ c ∈ tl (wdT k), 97 ≤ c ∧ c ≤ 122 := by
    intro k
    cases k
    · show ∀ c ∈ tl ("read" : Str), 97 ≤ c ∧ c ≤ 122
      decide +kernel
    · show ∀ c ∈ tl ("list" : Str), 97 ≤ c ∧ c ≤ 122
      decide +kernel
    · show ∀ c ∈ tl ("setting" : Str), 97 ≤ c ∧ c ≤ 122
      decide +kernel
    · show ∀ c ∈ tl ("tool" : Str), 97 ≤ c ∧ c ≤ 122
      decide +kernel
  have b : tl (" " : Str) = [32] := by decide +kernel
  intro c hc
  unfold lkT at hc
  by_cases e : k = .tl
  · rw [if_pos e] at hc
    exact .inr (.inr (w .tl c hc))
  · rw [if_neg e, tl_append, tl_append, b] at hc
    rcases List.mem_append.mp hc with hc | hc
    · rcases List.mem_append.mp hc with hc | hc
      · exact .inr (.inr (w k c hc))
      · exact .inl (List.mem_singleton.mp hc)
    · right
      cases k with
      | rd p => exact js_chars h.2.1 c hc
      | ls p =>
        have hc : c ∈ tl (if p = [] then ("/" : Str) else js p) := hc
        by_cases ep : p = []
        · rw [if_pos ep, tl_sl] at hc
          exact .inl (List.mem_singleton.mp hc)
        · rw [if_neg ep] at hc
          exact js_chars h.1 c hc
      | se n => exact .inr (h.2.2 c hc)
      | tl => exact absurd rfl e
theorem pre3 {L : List Nat} (h : pre [32, 58, 32] L = true) : L[1]? = some 58 := by
  unfold pre at h
  have h := eq_of_beq h
  have e : (L.take 3)[1]? = L[1]? := by rw [List.getElem?_take]; simp
  rw [← e]
  show (L.take ([32, 58, 32] : List Nat).length)[1]? = some 58
  rw [h]
  rfl
theorem part_line {a b : Str} (h : 58 ∉ tl a) : Txt.partition (a ++ " : " ++ b) " : " = (a, (" : " : Str), b) := by
  have ey : tl (" : " : Str) = [32, 58, 32] := by decide +kernel
  rw [partition_par _ _ (by rw [ey]; simp), tl_append, tl_append, List.append_assoc, ey]
  have q : par [32, 58, 32] [] (tl a ++ ([32, 58, 32] ++ tl b)) = some ([] ++ tl a, tl b) := par_part (by simp) fun i hi => by
    rw [Bool.eq_false_iff]
    intro hp
    have g := pre3 hp
    rw [List.getElem?_drop] at g
    by_cases lt : i + 1 < (tl a).length
    · rw [List.getElem?_append_left lt] at g
      exact h (List.mem_of_getElem? g)
    · rw [List.getElem?_append_right (by omega), show i + 1 - (tl a).length = 0 by omega] at g
      simp at g
  rw [q]
  show ((⟨([] ++ tl a).toArray⟩ : Str), (" : " : Str), (⟨(tl b).toArray⟩ : Str)) = _
  rw [List.nil_append, mk_tl, mk_tl]
theorem no10k {k : Lk} (h : LkOk k) : 10 ∉ tl (lkT k) := fun m => by have := lk_chars h 10 m; omega
theorem an_tl : tl ("-" : Str) = [45] ∧ tl ("\"" : Str) = [34] ∧ tl ("(" : Str) = [40] ∧ tl (")" : Str) = [41] ∧ tl (" " : Str) = [32] ∧ tl ("\n" : Str) = [10] ∧ tl (" : " : Str) = [32, 58, 32] ∧ tl ("end" : Str) = [101, 110, 100] := by decide +kernel
theorem ent_chars {n : Str} (h : IsNm n) (b : Bool) : ∀ c ∈ tl (ent n b), c = 47 ∨ (97 ≤ c ∧ c ≤ 122) := fun c hc => by
  rw [tl_ent] at hc
  rcases List.mem_append.mp hc with hc | hc
  · exact .inr (h.2.2 c hc)
  · cases b
    · simp at hc
    · simp at hc
      exact .inl hc
theorem no10a {a : An} (h : GoodA a) : 10 ∉ tl (anT a) := fun m => by
  obtain ⟨q1, q2, q3, q4, q5, _⟩ := an_tl
  cases a with
  | no =>
    have m : 10 ∈ tl ("-" : Str) := m
    rw [q1] at m
    simp at m
  | tx z =>
    have m : 10 ∈ tl ("\"" ++ z ++ "\"" : Str) := m
    rw [tl_append, tl_append, q2] at m
    have hz := h.1
    simp [hz] at m
  | es l =>
    have m : 10 ∈ tl ("(" ++ Txt.join " " (l.map fun e => ent e.1 e.2) ++ ")" : Str) := m
    rw [tl_append, tl_append, q3, q4, tl_tjoin, q5] at m
    rcases List.mem_append.mp m with m | m
    · rcases List.mem_append.mp m with m | m
      · simp at m
      · rcases mem_joinL m with m | ⟨x, hx, hc⟩
        · simp at m
        · rw [List.map_map] at hx
          obtain ⟨e, he, rfl⟩ := List.mem_map.mp hx
          have := ent_chars (h.1 e he) e.2 10 hc
          omega
    · simp at m
theorem no10l {s : Sg} (h : LkOk s.1) (g : GoodA s.2) : 10 ∉ tl (lineT s) := fun m => by
  obtain ⟨_, _, _, _, _, _, q7, _⟩ := an_tl
  unfold lineT at m
  rw [tl_append, tl_append, q7] at m
  have h1 := no10k h
  have h2 := no10a g
  simp [h1, h2] at m
theorem part_end (y : Str) : Txt.partition (endT y) " : " = (("end" : Str), (" : " : Str), anT (.tx y)) := part_line (by decide +kernel)
end K3

set_option maxHeartbeats 3900000
namespace K3
open PySem PySem.Spec PyProof.Rows L2 TL
theorem q_mk : ("\"" : Str) = mkS [34] ∧ ("(" : Str) = mkS [40] ∧ (")" : Str) = mkS [41] ∧ ("-" : Str) = mkS [45] := by decide +kernel
theorem tx_mk (z : Str) : anT (.tx z) = mkS (34 :: (tl z ++ [34])) := ext_tl (by
  show tl ("\"" ++ z ++ "\"" : Str) = _
  rw [tl_append, tl_append, an_tl.2.1, tl_mkS]
  simp)
abbrev eS (l : List (Str × Bool)) : List Str := l.map fun e => ent e.1 e.2
theorem es_mk (l : List (Str × Bool)) : anT (.es l) = mkS (40 :: (tl (Txt.join " " (eS l)) ++ [41])) := ext_tl (by
  show tl ("(" ++ Txt.join " " (eS l) ++ ")" : Str) = _
  rw [tl_append, tl_append, an_tl.2.2.1, an_tl.2.2.2.1, tl_mkS]
  simp)
def btw (x q r : Str) : Bool := decide (1 < x.length) && (Txt.startswith x q && Txt.endswith x r)
theorem mkS_len (l : List Nat) : (mkS l).length = l.length := by simp [mkS, Str.length]
theorem btw_tx (z : Str) : btw (anT (.tx z)) "\"" "\"" = true := by
  unfold btw
  rw [tx_mk, q_mk.1, starts_cons, show (34 :: (tl z ++ [34])) = (34 :: tl z) ++ [34] from rfl, ends_snoc, mkS_len]
  simp
theorem btw_es (l : List (Str × Bool)) : btw (anT (.es l)) "\"" "\"" = false ∧ btw (anT (.es l)) "(" ")" = true := by
  unfold btw
  rw [es_mk, q_mk.1, q_mk.2.1, q_mk.2.2.1, starts_ne _ (show (40 : Nat) ≠ 34 by decide), starts_cons, show (40 :: (tl (Txt.join " " (eS l)) ++ [41])) = (40 :: tl (Txt.join " " (eS l))) ++ [41] from rfl, ends_snoc, mkS_len]
  simp
theorem mkS_inj {l m : List Nat} (h : mkS l = mkS m) : l = m := by
  have := congrArg tl h
  rwa [tl_mkS, tl_mkS] at this
theorem tx_ne (z : Str) : anT (.tx z) ≠ "-" := fun e => by
  rw [tx_mk, q_mk.2.2.2] at e
  have := mkS_inj e
  simp at this
theorem es_ne (l : List (Str × Bool)) : anT (.es l) ≠ "-" := fun e => by
  rw [es_mk, q_mk.2.2.2] at e
  have := mkS_inj e
  simp at this
theorem cut_tx (z : Str) : cutS (anT (.tx z)) (some 1) (some (-1)) = z := by rw [tx_mk, cut_mid]; exact mk_tl z
theorem cut_es (l : List (Str × Bool)) : cutS (anT (.es l)) (some 1) (some (-1)) = Txt.join " " (eS l) := by rw [es_mk, cut_mid]; exact mk_tl _
theorem ent_ne {n : Str} (h : IsNm n) (b : Bool) : tl (ent n b) ≠ [] := fun e => by
  rw [tl_ent] at e
  exact nm_ne h (List.append_eq_nil_iff.mp e).1
theorem joinE_nil {l : List (Str × Bool)} (h : ∀ e ∈ l, IsNm e.1) : Txt.join " " (eS l) = "" ↔ l = [] := by
  constructor
  · intro e
    cases l with
    | nil => rfl
    | cons x r =>
      exfalso
      have e := congrArg tl e
      rw [tl_tjoin, show tl ("" : Str) = [] from by decide +kernel] at e
      have hx := ent_ne (h x List.mem_cons_self) x.2
      cases r with
      | nil =>
        exact hx e
      | cons y r =>
        exact hx (List.append_eq_nil_iff.mp e).1
  · intro e
    subst e
    decide +kernel
theorem split_es {l : List (Str × Bool)} (h : ∀ e ∈ l, IsNm e.1) (ne : l ≠ []) : Txt.split (Txt.join " " (eS l)) " " = eS l := by
  refine split_join (s := 32) (S := []) (by decide +kernel) (by decide +kernel) (by simpa using ne) fun p hp m => ?_
  obtain ⟨e, he, rfl⟩ := List.mem_map.mp hp
  have := ent_chars (h e he) e.2 32 m
  omega
theorem es_inj {l m : List (Str × Bool)} (h : ∀ e ∈ l, IsNm e.1) (h' : ∀ e ∈ m, IsNm e.1) (e : eS l = eS m) : l = m := by
  induction l generalizing m with
  | nil =>
    cases m with
    | nil => rfl
    | cons => simp at e
  | cons x r ih =>
    cases m with
    | nil => simp at e
    | cons y s =>
      have e : ent x.1 x.2 :: eS r = ent y.1 y.2 :: eS s := e
      injection e with e1 e2
      obtain ⟨a, b⟩ := ent_inj (h x List.mem_cons_self) (h' y List.mem_cons_self) e1
      rw [ih (fun z hz => h z (List.mem_cons_of_mem _ hz)) (fun z hz => h' z (List.mem_cons_of_mem _ hz)) e2, show x = y from Prod.ext a b]
theorem an_inj {a b : An} (h : GoodA a) (h' : GoodA b) (e : anT a = anT b) : a = b := by
  have n : anT .no = mkS [45] := q_mk.2.2.2
  cases a <;> cases b
  · rfl
  · exact absurd e.symm (tx_ne _)
  · exact absurd e.symm (es_ne _)
  · exact absurd e (tx_ne _)
  · rename_i z y
    have : cutS _ (some 1) (some (-1)) = cutS _ (some 1) (some (-1)) := congrArg (fun x => cutS x (some 1) (some (-1))) e
    rw [cut_tx, cut_tx] at this
    rw [this]
  · rename_i z l
    rw [tx_mk, es_mk] at e
    have := mkS_inj e
    simp at this
  · exact absurd e (es_ne _)
  · rename_i l z
    rw [tx_mk, es_mk] at e
    have := mkS_inj e
    simp at this
  · rename_i l m
    have : cutS _ (some 1) (some (-1)) = cutS _ (some 1) (some (-1)) := congrArg (fun x => cutS x (some 1) (some (-1))) e
    rw [cut_es, cut_es] at this
    by_cases e1 : l = []
    · subst e1
      rw [show Txt.join " " (eS []) = "" from by decide +kernel] at this
      rw [(joinE_nil h'.1).mp this.symm]
    · have e2 : m ≠ [] := fun e2 => by
        subst e2
        rw [show Txt.join " " (eS []) = "" from by decide +kernel] at this
        exact e1 ((joinE_nil h.1).mp this)
      have q : Txt.split _ " " = Txt.split _ " " := congrArg (fun x => Txt.split x " ") this
      rw [split_es h.1 e1, split_es h'.1 e2] at q
      rw [es_inj h.1 h'.1 q]
def ptT : Lk → Str
  | .rd p => js p
  | .ls p => js p
  | .se n => n
  | .tl => ""
theorem lkV_pt {k : Lk} (h : k ≠ .tl) : lkV k = [.str (wdT k), .str (ptT k)] := by
  cases k
  · rfl
  · rfl
  · rfl
  · exact absurd rfl h
theorem part_lk {k : Lk} (h : k ≠ .tl) : Txt.partition (lkT k) " " = (wdT k, (" " : Str), whT k) := by
  unfold lkT
  rw [if_neg h]
  refine partition_app (s := 32) (S := []) (by decide +kernel) ?_
  cases k
  · show 32 ∉ tl ("read" : Str); decide +kernel
  · show 32 ∉ tl ("list" : Str); decide +kernel
  · show 32 ∉ tl ("setting" : Str); decide +kernel
  · exact absurd rfl h
theorem slash_js {p : List Str} (hp : Nms p) : js p ≠ "/" := fun e => by
  have e2 := congrArg tl e
  rw [tl_js, tl_sl] at e2
  have := jl_head hp
  rw [e2] at this
  simp at this
theorem slash_nm {n : Str} (h : IsNm n) : n ≠ "/" := fun e => by
  have := h.2.2 47 (by rw [e, tl_sl]; simp)
  omega
theorem wh_ne {k : Lk} (ok : LkOk k) (h : k ≠ .tl) : whT k ≠ "" := by
  cases k with
  | rd p => exact js_ne ok.2.1 ok.1
  | ls p =>
    show (if p = [] then ("/" : Str) else js p) ≠ ""
    by_cases e : p = []
    · rw [if_pos e]; decide +kernel
    · rw [if_neg e]; exact js_ne ok.1 e
  | se n => exact fun e => nm_ne ok (by show tl n = []; rw [show n = "" from e]; rfl)
  | tl => exact absurd rfl h
theorem wh_pt {k : Lk} (ok : LkOk k) (h : k ≠ .tl) : (if whT k = "/" then ("" : Str) else whT k) = ptT k := by
  cases k with
  | rd p => exact if_neg (slash_js ok.2.1)
  | ls p =>
    show (if (if p = [] then ("/" : Str) else js p) = "/" then ("" : Str) else (if p = [] then ("/" : Str) else js p)) = js p
    by_cases e : p = []
    · subst e
      rw [if_pos rfl, if_pos rfl]
      rfl
    · rw [if_neg e, if_neg (slash_js ok.1)]
  | se n => exact if_neg (slash_nm ok)
  | tl => exact absurd rfl h
theorem lk_tool {k : Lk} : lkT k = "tool" ↔ k = .tl := by
  constructor
  · intro e
    by_cases h : k = .tl
    · exact h
    · exfalso
      unfold lkT at e
      rw [if_neg h] at e
      have m : 32 ∈ tl (wdT k ++ " " ++ whT k) := by rw [tl_append, tl_append, an_tl.2.2.2.2.1]; simp
      rw [e] at m
      revert m
      decide +kernel
  · intro e
    subst e
    rfl
theorem wd_ne : ("read" : Str) ≠ "list" ∧ ("read" : Str) ≠ "setting" ∧ ("list" : Str) ≠ "setting" := by decide +kernel
theorem lk_inj {k k' : Lk} (h : LkOk k) (h' : LkOk k') (e : lkT k = lkT k') : k = k' := by
  by_cases h1 : k = .tl
  · rw [h1] at e ⊢
    exact (lk_tool.mp (e.symm.trans (lk_tool.mpr rfl))).symm
  · have h2 : k' ≠ .tl := fun q => h1 (lk_tool.mp (e.trans (lk_tool.mpr q)))
    have p1 := part_lk h1
    rw [e, part_lk h2] at p1
    injection p1 with a b
    injection b with _ b
    have c := wh_pt h h1
    rw [← b, wh_pt h' h2] at c
    cases k <;> cases k'
    · exact congrArg _ (js_inj h.2.1 h'.2.1 c.symm)
    · exact absurd a.symm wd_ne.1
    · exact absurd a.symm wd_ne.2.1
    · exact absurd rfl h2
    · exact absurd a wd_ne.1
    · exact congrArg _ (js_inj h.1 h'.1 c.symm)
    · exact absurd a.symm wd_ne.2.2
    · exact absurd rfl h2
    · exact absurd a wd_ne.2.1
    · exact absurd a wd_ne.2.2
    · exact congrArg _ c.symm
    · exact absurd rfl h2
    · exact absurd rfl h1
    · exact absurd rfl h1
    · exact absurd rfl h1
    · rfl
end K3

set_option maxHeartbeats 3900000
namespace K3
open PySem PySem.Spec PyProof.Rows L2 TL
def wt (f : Nat → Nat) (t : List Nat) : Nat := (t.map f).sum
theorem wt_app (f : Nat → Nat) (a b : List Nat) : wt f (a ++ b) = wt f a + wt f b := by unfold wt; rw [List.map_append, List.sum_append]
theorem wt_cons (f : Nat → Nat) (c : Nat) (b : List Nat) : wt f (c :: b) = f c + wt f b := by unfold wt; rw [List.map_cons, List.sum_cons]
theorem wt_nil (f : Nat → Nat) : wt f [] = 0 := rfl
def LB (f : Nat → Nat) (B : Nat) (t : List Nat) : Prop := ∀ p a q, t = p ++ (a ++ q) → 10 ∉ a → wt f a ≤ B
theorem LB.le {f : Nat → Nat} {B C : Nat} {t : List Nat} (h : LB f B t) (l : B ≤ C) : LB f C t := fun p a q e n => Nat.le_trans (h p a q e n) l
theorem LB.inf {f : Nat → Nat} {B : Nat} {p t q : List Nat} (h : LB f B (p ++ (t ++ q))) : LB f B t := fun p' a q' e n => h (p ++ p') a (q' ++ q) (by rw [e]; simp only [List.append_assoc]) n
theorem LB.one {f : Nat → Nat} (hf : ∀ c, f c ≤ 1) {t : List Nat} (ht : t.length ≤ 1) : LB f 1 t := fun p a q e n => by
  have hl : a.length ≤ 1 := by
    have := congrArg List.length e
    rw [List.length_append, List.length_append] at this
    omega
  match a, hl with
  | [], _ => exact Nat.zero_le _
  | [c], _ =>
    rw [wt_cons, wt_nil]
    exact hf c
  | _ :: _ :: _, h => simp at h
theorem LB.app {f : Nat → Nat} {B C : Nat} {x y : List Nat} (h : LB f B x) (g : LB f C y) : LB f (B + C) (x ++ y) := fun p a q e n => by
  rcases List.append_eq_append_iff.mp e with ⟨m, e1, e2⟩ | ⟨m, e1, e2⟩
  · have := g m a q e2 n
    omega
  · rcases List.append_eq_append_iff.mp e2 with ⟨r, e3, e4⟩ | ⟨r, e3, e4⟩
    · have := h p a r (by rw [e1, e3]) n
      omega
    · rw [e3] at n
      have h1 := h p m [] (by rw [e1, List.append_nil]) fun z => n (List.mem_append_left _ z)
      have h2 := g [] r q (by rw [e4]; rfl) fun z => n (List.mem_append_right _ z)
      rw [e3, wt_app]
      omega
theorem LB.line {f : Nat → Nat} {B : Nat} {x y : List Nat} (h : LB f B x) (g : LB f B y) : LB f B (x ++ 10 :: y) := fun p a q e n => by
  rcases List.append_eq_append_iff.mp e with ⟨m, e1, e2⟩ | ⟨m, e1, e2⟩
  · cases m with
    | nil =>
      cases a with
      | nil => exact Nat.zero_le _
      | cons c r =>
        injection e2 with e3 _
        rw [← e3] at n
        exact absurd List.mem_cons_self n
    | cons c r =>
      injection e2 with _ e3
      exact g r a q e3 n
  · rcases List.append_eq_append_iff.mp e2 with ⟨r, e3, e4⟩ | ⟨r, e3, e4⟩
    · exact h p a r (by rw [e1, e3]) n
    · cases r with
      | nil =>
        rw [List.append_nil] at e3
        rw [e3]
        rw [e3] at n
        exact h p m [] (by rw [e1, List.append_nil]) n
      | cons c r =>
        injection e4 with e5 _
        rw [e3, ← e5] at n
        exact absurd (List.mem_append_right _ List.mem_cons_self) n
theorem LB.join {f : Nat → Nat} {B : Nat} : ∀ {ps : List (List Nat)}, (∀ p ∈ ps, LB f B p) → LB f B (joinL [10] ps)
  | [], _ => fun p a q e n => by
    have : a = [] := by
      have e : p ++ (a ++ q) = [] := e.symm
      exact (List.append_eq_nil_iff.mp (List.append_eq_nil_iff.mp e).2).1
    rw [this]
    exact Nat.zero_le _
  | [p], h => h p List.mem_cons_self
  | p :: q :: r, h => (h p List.mem_cons_self).line (LB.join fun x hx => h x (List.mem_cons_of_mem _ hx))
theorem mem_inf (s : Nat) : ∀ {ps : List (List Nat)} {l : List Nat}, l ∈ ps → ∃ p q, joinL [s] ps = p ++ (l ++ q)
  | [], _, h => by cases h
  | [p], l, h => ⟨[], [], by rw [List.mem_singleton.mp h, List.append_nil]; rfl⟩
  | p :: q :: r, l, h => by
    have e : joinL [s] (p :: q :: r) = p ++ ([s] ++ joinL [s] (q :: r)) := rfl
    rcases List.mem_cons.mp h with rfl | h
    · exact ⟨[], [s] ++ joinL [s] (q :: r), e⟩
    · obtain ⟨a, b, e2⟩ := mem_inf s h
      refine ⟨p ++ ([s] ++ a), b, ?_⟩
      rw [e, e2]
      simp only [List.append_assoc]
theorem LB.mem {f : Nat → Nat} {B : Nat} {ps : List (List Nat)} (h : LB f B (joinL [10] ps)) {p : List Nat} (hp : p ∈ ps) : LB f B p := by
  obtain ⟨a, b, e⟩ := mem_inf 10 hp
  rw [e] at h
  exact h.inf
theorem LB.all {f : Nat → Nat} {B : Nat} {t : List Nat} (h : LB f B t) (n : 10 ∉ t) : wt f t ≤ B := h [] t [] (by rw [List.append_nil]; rfl) n
theorem LB.of_wt {f : Nat → Nat} {B : Nat} {t : List Nat} (h : wt f t ≤ B) : LB f B t := fun p a q e _ => by
  rw [e, wt_app, wt_app] at h
  omega
def w1 : Nat → Nat := fun _ => 1
def wc (d : Nat) : Nat → Nat := fun c => if c = d then 1 else 0
theorem w1_le : ∀ c, w1 c ≤ 1 := fun _ => Nat.le_refl _
theorem wc_le (d : Nat) : ∀ c, wc d c ≤ 1 := fun c => by unfold wc; split <;> decide
theorem wt_w1 (t : List Nat) : wt w1 t = t.length := by
  induction t with
  | nil => rfl
  | cons c r ih => rw [wt_cons, ih, List.length_cons]; show 1 + r.length = _; omega
theorem parts_ex (s : Nat) : ∀ t : List Nat, ∃ ps : List (List Nat), ps ≠ [] ∧ t = joinL [s] ps ∧ (∀ p ∈ ps, s ∉ p) ∧ ps.length = wt (wc s) t + 1
  | [] => ⟨[[]], by simp, rfl, by simp, rfl⟩
  | c :: r => by
    obtain ⟨ps, h1, h2, h3, h4⟩ := parts_ex s r
    by_cases e : c = s
    · refine ⟨[] :: ps, by simp, ?_, fun p hp => ?_, ?_⟩
      · obtain ⟨q, u, rfl⟩ : ∃ q u, ps = q :: u := by
          cases ps with
          | nil => exact absurd rfl h1
          | cons q u => exact ⟨q, u, rfl⟩
        rw [h2, e]
        rfl
      · rcases List.mem_cons.mp hp with rfl | hp
        · simp
        · exact h3 p hp
      · rw [List.length_cons, h4, wt_cons]
        unfold wc
        rw [if_pos e]
        omega
    · obtain ⟨q, u, rfl⟩ : ∃ q u, ps = q :: u := by
        cases ps with
        | nil => exact absurd rfl h1
        | cons q u => exact ⟨q, u, rfl⟩
      refine ⟨(c :: q) :: u, by simp, ?_, fun p hp => ?_, ?_⟩
      · rw [h2]
        cases u <;> rfl
      · rcases List.mem_cons.mp hp with rfl | hp
        · intro m
          rcases List.mem_cons.mp m with m | m
          · exact e m.symm
          · exact h3 q List.mem_cons_self m
        · exact h3 p (List.mem_cons_of_mem _ hp)
      · rw [List.length_cons] at h4 ⊢
        rw [h4, wt_cons]
        unfold wc
        rw [if_neg e]
        omega
theorem wt_free (s : Nat) {t : List Nat} (ht : s ∉ t) : wt (wc s) t = 0 := by
  induction t with
  | nil => rfl
  | cons c r ih =>
    rw [wt_cons, ih fun z => ht (List.mem_cons_of_mem _ z)]
    unfold wc
    rw [if_neg fun e => ht (by rw [e]; exact List.mem_cons_self)]
theorem wt_join (s : Nat) : ∀ {ps : List (List Nat)}, ps ≠ [] → (∀ p ∈ ps, s ∉ p) → wt (wc s) (joinL [s] ps) + 1 = ps.length
  | [], h, _ => absurd rfl h
  | [p], _, h => by
    show wt (wc s) p + 1 = 1
    rw [wt_free s (h p List.mem_cons_self)]
  | p :: q :: r, _, h => by
    have ih := wt_join s (ps := q :: r) (by simp) fun x hx => h x (List.mem_cons_of_mem _ hx)
    show wt (wc s) (p ++ ([s] ++ joinL [s] (q :: r))) + 1 = _
    rw [wt_app, wt_app, wt_free s (h p List.mem_cons_self)]
    have : wt (wc s) [s] = 1 := by unfold wt wc; simp
    rw [List.length_cons, ← ih]
    omega
structure LnOk (B L : Nat) (l : Str) : Prop where
  nn : 10 ∉ tl l
  sl : wt (wc 47) (tl l) ≤ B
  bl : wt (wc 32) (tl l) ≤ B
  ln : l.length ≤ L
  ch : ∀ c ∈ tl l, c < 128
structure TG (B L n : Nat) (t : Str) : Prop where
  sl : LB (wc 47) B (tl t)
  bl : LB (wc 32) B (tl t)
  ln : LB w1 L (tl t)
  nl : wt (wc 10) (tl t) ≤ n
  ch : ∀ c ∈ tl t, c < 128
theorem LnOk.le {B L B' L' : Nat} {l : Str} (h : LnOk B L l) (h1 : B ≤ B') (h2 : L ≤ L') : LnOk B' L' l := ⟨h.nn, Nat.le_trans h.sl h1, Nat.le_trans h.bl h1, Nat.le_trans h.ln h2, h.ch⟩
theorem TG.le {B L n B' L' n' : Nat} {t : Str} (h : TG B L n t) (h1 : B ≤ B') (h2 : L ≤ L') (h3 : n ≤ n') : TG B' L' n' t := ⟨h.sl.le h1, h.bl.le h1, h.ln.le h2, Nat.le_trans h.nl h3, h.ch⟩
theorem map_tl_mk (ps : List (List Nat)) : (ps.map mkS).map tl = ps := by
  rw [List.map_map]
  exact (List.map_congr_left fun p _ => tl_mkS p).trans (List.map_id _)
theorem nl_tl : tl ("\n" : Str) = [10] ∧ ("\n" : Str).cps.all (· < 256) = true := by decide +kernel
theorem lines_of {B L n : Nat} {t : Str} (h : TG B L n t) : ∃ ls : List Str, Txt.split t "\n" = ls ∧ ls ≠ [] ∧ t = Txt.join "\n" ls ∧ ls.length ≤ n + 1 ∧ ∀ l ∈ ls, LnOk B L l := by
  obtain ⟨ps, h1, h2, h3, h4⟩ := parts_ex 10 (tl t)
  have e : t = Txt.join "\n" (ps.map mkS) := ext_tl (by rw [tl_tjoin, nl_tl.1, map_tl_mk, ← h2])
  have n0 : ps.map mkS ≠ [] := fun z => h1 (List.map_eq_nil_iff.mp z)
  refine ⟨ps.map mkS, ?_, n0, e, by rw [List.length_map, h4]; have := h.nl; omega, fun l hl => ?_⟩
  · rw [e]
    refine split_join (s := 10) (S := []) nl_tl.1 nl_tl.2 n0 fun p hp => ?_
    obtain ⟨q, hq, rfl⟩ := List.mem_map.mp hp
    exact h3 q hq
  · obtain ⟨q, hq, rfl⟩ := List.mem_map.mp hl
    have g1 := h.sl
    have g2 := h.bl
    have g3 := h.ln
    have g4 := h.ch
    rw [h2] at g1 g2 g3 g4
    have n10 := h3 q hq
    refine ⟨n10, (g1.mem hq).all n10, (g2.mem hq).all n10, ?_, fun c hc => g4 c ?_⟩
    · have := (g3.mem hq).all n10
      rw [wt_w1] at this
      rw [mkS_len]
      exact this
    · obtain ⟨a, b, e2⟩ := mem_inf 10 hq
      rw [e2]
      exact List.mem_append_right _ (List.mem_append_left _ hc)
theorem TG.of_lines {B L n : Nat} {ls : List Str} (h0 : ls.length ≤ n + 1) (h : ∀ l ∈ ls, LnOk B L l) : TG B L n (Txt.join "\n" ls) := by
  have e : tl (Txt.join "\n" ls) = joinL [10] (ls.map tl) := by rw [tl_tjoin, nl_tl.1]
  have a : ∀ (f : Nat → Nat) (C : Nat), (∀ l ∈ ls, wt f (tl l) ≤ C) → LB f C (tl (Txt.join "\n" ls)) := fun f C g => by
    rw [e]
    refine LB.join fun p hp => ?_
    obtain ⟨l, hl, rfl⟩ := List.mem_map.mp hp
    exact LB.of_wt (g l hl)
  refine ⟨a _ _ fun l hl => (h l hl).sl, a _ _ fun l hl => (h l hl).bl, a _ _ fun l hl => by rw [wt_w1, ← len_tl]; exact (h l hl).ln, ?_, fun c hc => ?_⟩
  · rw [e]
    by_cases z : ls = []
    · rw [z]
      exact Nat.zero_le _
    · have := wt_join 10 (ps := ls.map tl) (fun y => z (List.map_eq_nil_iff.mp y)) fun p hp => by
        obtain ⟨l, hl, rfl⟩ := List.mem_map.mp hp
        exact (h l hl).nn
      rw [List.length_map] at this
      omega
  · rw [tl_tjoin, nl_tl.1] at hc
    rcases mem_joinL hc with hc | ⟨x, hx, hc⟩
    · rw [List.mem_singleton.mp hc]
      decide
    · obtain ⟨l, hl, rfl⟩ := List.mem_map.mp hx
      exact (h l hl).ch c hc
theorem TG.len {B L n : Nat} {t : Str} (h : TG B L n t) : t.length ≤ (n + 1) * (L + 1) := by
  obtain ⟨ls, _, _, e, hl, hk⟩ := lines_of h
  have main : ∀ qs : List (List Nat), (∀ q ∈ qs, q.length ≤ L) → (joinL [10] qs).length ≤ qs.length * (L + 1) := by
    intro qs
    induction qs with
    | nil => intro _; simp [joinL]
    | cons a r ih =>
      intro hq
      have ha := hq a List.mem_cons_self
      have hr := ih fun q h => hq q (List.mem_cons_of_mem _ h)
      rw [List.length_cons, Nat.succ_mul]
      cases r with
      | nil => show a.length ≤ _; omega
      | cons b r =>
        show (a ++ ([10] ++ joinL [10] (b :: r))).length ≤ _
        rw [List.length_append, List.length_append, List.length_singleton]
        omega
  have := main (ls.map tl) fun q hq => by
    obtain ⟨l, hl, rfl⟩ := List.mem_map.mp hq
    rw [← len_tl]
    exact (hk l hl).ln
  rw [len_tl, e, tl_tjoin, nl_tl.1]
  rw [List.length_map] at this
  exact Nat.le_trans this (Nat.mul_le_mul_right _ hl)
theorem TG.sign {B L n : Nat} {t s : Str} (h : TG B L n t) (hs : s.length ≤ 1) (hc : ∀ c ∈ tl s, c < 128) {m j : Nat} (mj : m ≤ j) {x y : Str} (hx : tl x = (tl t).take m) (hy : tl y = (tl t).drop j) : TG (2 * B + 1) (2 * L + 1) (n + 1) (x ++ s ++ y) := by
  have sl1 : (tl s).length ≤ 1 := by rw [← len_tl]; exact hs
  have ex : ∀ (f : Nat → Nat) (C : Nat), LB f C (tl t) → LB f C (tl x) := fun f C g => by
    rw [hx]
    refine LB.inf (p := []) (q := (tl t).drop m) ?_
    rw [List.nil_append, List.take_append_drop]
    exact g
  have ey : ∀ (f : Nat → Nat) (C : Nat), LB f C (tl t) → LB f C (tl y) := fun f C g => by
    rw [hy]
    refine LB.inf (p := (tl t).take j) (q := []) ?_
    rw [List.append_nil, List.take_append_drop]
    exact g
  have go : ∀ (f : Nat → Nat) (C : Nat), (∀ c, f c ≤ 1) → LB f C (tl t) → LB f (2 * C + 1) (tl (x ++ s ++ y)) := fun f C hf g => by
    rw [tl_append, tl_append]
    exact (((ex f C g).app (LB.one hf sl1)).app (ey f C g)).le (by omega)
  refine ⟨go _ _ (wc_le _) h.sl, go _ _ (wc_le _) h.bl, go _ _ w1_le h.ln, ?_, fun c hcc => ?_⟩
  · rw [tl_append, tl_append, wt_app, wt_app, hx, hy]
    have a1 : wt (wc 10) (tl s) ≤ 1 := by
      have := LB.one (f := wc 10) (wc_le _) sl1
      exact Nat.le_trans (by
        have : ∀ u : List Nat, u.length ≤ 1 → wt (wc 10) u ≤ 1 := by
          intro u hu
          match u, hu with
          | [], _ => exact Nat.zero_le _
          | [c], _ => rw [wt_cons, wt_nil]; exact wc_le _ c
          | _ :: _ :: _, h => simp at h
        exact this _ sl1) (Nat.le_refl 1)
    have a2 : wt (wc 10) ((tl t).take m) + wt (wc 10) ((tl t).drop m) = wt (wc 10) (tl t) := by rw [← wt_app, List.take_append_drop]
    have a3 : wt (wc 10) ((tl t).drop j) ≤ wt (wc 10) ((tl t).drop m) := by
      have e : (tl t).drop j = ((tl t).drop m).drop (j - m) := by rw [List.drop_drop]; congr 1; omega
      have e2 : wt (wc 10) (((tl t).drop m).take (j - m)) + wt (wc 10) (((tl t).drop m).drop (j - m)) = wt (wc 10) ((tl t).drop m) := by rw [← wt_app, List.take_append_drop]
      rw [e]
      omega
    have := h.nl
    omega
  · rw [tl_append, tl_append] at hcc
    rcases List.mem_append.mp hcc with g | g
    · rcases List.mem_append.mp g with g | g
      · rw [hx] at g
        exact h.ch c (List.mem_of_mem_take g)
      · exact hc c g
    · rw [hy] at g
      exact h.ch c (List.mem_of_mem_drop g)
theorem parted (y : Str) (s : Nat) (ey : tl y = [s]) (hk : y.cps.all (· < 256) = true) (t : Str) : ∃ ps : List Str, Txt.split t y = ps ∧ ps ≠ [] ∧ t = Txt.join y ps ∧ ps.length = wt (wc s) (tl t) + 1 ∧ ∀ p ∈ ps, s ∉ tl p ∧ p.length ≤ t.length ∧ ∀ c ∈ tl p, c ∈ tl t := by
  obtain ⟨ps, h1, h2, h3, h4⟩ := parts_ex s (tl t)
  have e : t = Txt.join y (ps.map mkS) := ext_tl (by rw [tl_tjoin, ey, map_tl_mk, ← h2])
  have n0 : ps.map mkS ≠ [] := fun z => h1 (List.map_eq_nil_iff.mp z)
  refine ⟨ps.map mkS, ?_, n0, e, by rw [List.length_map, h4], fun l hl => ?_⟩
  · conv => lhs; rw [e]
    refine split_join (s := s) (S := []) ey hk n0 fun p hp => ?_
    obtain ⟨q, hq, rfl⟩ := List.mem_map.mp hp
    exact h3 q hq
  · obtain ⟨q, hq, rfl⟩ := List.mem_map.mp hl
    obtain ⟨a, b, e2⟩ := mem_inf s hq
    refine ⟨h3 q hq, ?_, fun c hc => ?_⟩
    · rw [mkS_len, len_tl, h2, e2, List.length_append, List.length_append]
      omega
    · rw [h2, e2]
      exact List.mem_append_right _ (List.mem_append_left _ hc)
end K3

set_option maxHeartbeats 3900000
namespace K3
open PySem PySem.Spec PyProof.Rows L2 TL
theorem part_or (x y : Str) (hy : tl y ≠ []) : (∃ a b, Txt.partition x y = (a, y, b) ∧ x = a ++ y ++ b) ∨ Txt.partition x y = (x, (("" : Str), ("" : Str))) := by
  have s := StrLaws.partition_sum x y
  rw [partition_par x y hy] at s ⊢
  split at s
  · rename_i a b e
    exact .inl ⟨_, _, rfl, s.symm⟩
  · exact .inr rfl
theorem sl_cps : ("/" : Str).cps.all (· < 256) = true ∧ (" " : Str).cps.all (· < 256) = true := by decide +kernel
def LkZ : Lk → Prop
  | .rd p => p.length ≤ 40
  | .ls p => p.length ≤ 40
  | _ => True
def LkG (k : Lk) : Prop := LkOk k ∧ LkZ k
theorem path_or {z : Str} (h : Sh z) (hs : wt (wc 47) (tl z) ≤ 35) : (∃ p, p ≠ [] ∧ Nms p ∧ z = js p ∧ p.length ≤ 40) ∨ (PathNo z ∧ ∀ p, p ≠ [] → Nms p → z ≠ js p) := by
  obtain ⟨ys, e, n0, ej, el, hy⟩ := parted "/" 47 tl_sl sl_cps.1 z
  by_cases a : (ys.all fun y => decide (IsNm y)) = true
  · refine .inl ⟨ys, n0, fun y hy2 => of_decide_eq_true (List.all_eq_true.mp a y hy2), ej, by omega⟩
  · refine .inr ⟨⟨ys, e, h, fun y hy2 => Nat.le_trans (hy y hy2).2.1 h, by omega, by rwa [Bool.not_eq_true] at a⟩, fun p hp np ez => a ?_⟩
    rw [ez, split_js np hp] at e
    rw [← e]
    exact List.all_eq_true.mpr fun y hy2 => decide_eq_true (np y hy2)
def cutR (r : Str) : Str := if r = "/" then "" else r
theorem sh_cutR {r : Str} (h : Sh r) : Sh (cutR r) := by
  unfold cutR
  split
  · exact Nat.zero_le _
  · exact h
theorem nm_lit : ¬ IsNm "" ∧ ¬ IsNm "/" := by
  constructor
  · intro h
    exact nm_ne h rfl
  · intro h
    have := h.2.2 47 (by rw [tl_sl]; simp)
    omega
theorem look_or (w r : Str) (hr : Sh r) (n0 : r ≠ "") (hs : wt (wc 47) (tl r) ≤ 35) :
    (∃ k, k ≠ .tl ∧ LkG k ∧ w = wdT k ∧ r = whT k ∧ cutR r = ptT k) ∨ (CanNot w (.str (cutR r)) ∧ ∀ k, k ≠ .tl → LkOk k → w = wdT k → r ≠ whT k) := by
  obtain ⟨d1, d2, d3⟩ := wd_ne
  by_cases w1 : w = "read"
  · subst w1
    by_cases er : r = "/"
    · refine .inr ⟨?_, fun k kt ok ew e => ?_⟩
      · rw [show cutR r = "" from if_pos er]
        refine .rd ⟨[""], by decide +kernel, Nat.zero_le _, fun y hy => by rw [List.mem_singleton.mp hy]; exact Nat.zero_le _, by decide, ?_⟩
        show (decide (IsNm "") && true) = false
        rw [decide_eq_false nm_lit.1]
        rfl
      · cases k with
        | rd p => exact slash_js ok.2.1 (e.symm.trans er)
        | ls p => exact d1 ew
        | se n => exact d2 ew
        | tl => exact kt rfl
    · have ec : cutR r = r := if_neg er
      rw [ec]
      rcases path_or hr hs with ⟨p, hp, np, ej, pl⟩ | ⟨no, nn⟩
      · exact .inl ⟨.rd p, (fun z => by cases z), ⟨⟨hp, np, by omega⟩, pl⟩, rfl, ej, ej⟩
      · refine .inr ⟨.rd no, fun k kt ok ew e => ?_⟩
        cases k with
        | rd p => exact nn p ok.1 ok.2.1 e
        | ls p => exact d1 ew
        | se n => exact d2 ew
        | tl => exact kt rfl
  by_cases w2 : w = "list"
  · subst w2
    by_cases er : r = "/"
    · refine .inl ⟨.ls [], (fun z => by cases z), ⟨⟨by simp [Nms], by decide⟩, by show 0 ≤ 40; decide⟩, rfl, ?_, ?_⟩
      · rw [er]; rfl
      · rw [show cutR r = "" from if_pos er]; rfl
    · have ec : cutR r = r := if_neg er
      rw [ec]
      rcases path_or hr hs with ⟨p, hp, np, ej, pl⟩ | ⟨no, nn⟩
      · refine .inl ⟨.ls p, (fun z => by cases z), ⟨⟨np, by omega⟩, pl⟩, rfl, ?_, ej⟩
        show r = if p = [] then ("/" : Str) else js p
        rw [if_neg hp]
        exact ej
      · refine .inr ⟨.ls no n0, fun k kt ok ew e => ?_⟩
        cases k with
        | rd p => exact d1 ew.symm
        | ls p =>
          have e : r = if p = [] then ("/" : Str) else js p := e
          by_cases z : p = []
          · rw [if_pos z] at e
            exact er e
          · rw [if_neg z] at e
            exact nn p z ok.1 e
        | se n => exact d3 ew
        | tl => exact kt rfl
  by_cases w3 : w = "setting"
  · subst w3
    by_cases hn : IsNm r
    · have ec : cutR r = r := if_neg fun e => nm_lit.2 (by rw [← e]; exact hn)
      rw [ec]
      exact .inl ⟨.se r, (fun z => by cases z), ⟨hn, trivial⟩, rfl, rfl, rfl⟩
    · refine .inr ⟨.se (fun h => ?_) (sh_cutR hr), fun k kt ok ew e => ?_⟩
      · by_cases er : r = "/"
        · rw [show cutR r = "" from if_pos er] at h
          exact nm_lit.1 h
        · rw [show cutR r = r from if_neg er] at h
          exact hn h
      · cases k with
        | rd p => exact d2 ew.symm
        | ls p => exact d3 ew.symm
        | se n =>
          have e : r = n := e
          rw [e] at hn
          exact hn ok
        | tl => exact kt rfl
  · refine .inr ⟨.oth w1 w2 w3, fun k kt ok ew e => ?_⟩
    cases k with
    | rd p => exact w1 ew
    | ls p => exact w2 ew
    | se n => exact w3 ew
    | tl => exact kt rfl
open Classical in
noncomputable def lookM (h : Str) : Option Lk := if e : ∃ k, LkG k ∧ h = lkT k then some (Classical.choose e) else none
theorem lookM_some {h : Str} {k : Lk} (e : lookM h = some k) : LkG k ∧ h = lkT k := by
  unfold lookM at e
  split at e
  · rename_i q
    cases e
    exact Classical.choose_spec q
  · cases e
theorem lookM_of {h : Str} {k : Lk} (g : LkG k) (e : h = lkT k) : lookM h = some k := by
  have q : ∃ k, LkG k ∧ h = lkT k := ⟨k, g, e⟩
  unfold lookM
  rw [dif_pos q]
  have c := Classical.choose_spec q
  rw [lk_inj c.1.1 g.1 (c.2.symm.trans e)]
theorem lookM_no {h : Str} (g : ∀ k, LkG k → h ≠ lkT k) : lookM h = none := by
  unfold lookM
  rw [dif_neg]
  rintro ⟨k, a, b⟩
  exact g k a b
theorem sp_tl : tl (" " : Str) ≠ [] ∧ tl (" : " : Str) ≠ [] ∧ tl (" " : Str) = [32] ∧ (" " : Str) ≠ "" := by decide +kernel
theorem head_or {h : Str} (hh : Sh h) (hs : wt (wc 47) (tl h) ≤ 35) (nt : h ≠ "tool") : ∃ w g r, Txt.partition h " " = (w, g, r) ∧ Sh w ∧ Sh r ∧ wt (wc 47) (tl r) ≤ 35 ∧
    (r = "" → lookM h = none) ∧ (r ≠ "" → g = " " ∧ h = w ++ " " ++ r ∧ ((∃ k, k ≠ .tl ∧ LkG k ∧ w = wdT k ∧ r = whT k ∧ cutR r = ptT k ∧ lookM h = some k) ∨ (CanNot w (.str (cutR r)) ∧ lookM h = none))) := by
  have no : ∀ {w g r : Str}, Txt.partition h " " = (w, g, r) → (∀ k, k ≠ .tl → LkOk k → w = wdT k → r ≠ whT k) → lookM h = none := fun {w g r} e q => lookM_no fun k gk ek => by
    have kt : k ≠ .tl := fun z => nt (by rw [ek]; exact lk_tool.mpr z)
    rw [ek, part_lk kt] at e
    injection e with e1 e2
    injection e2 with _ e3
    exact q k kt gk.1 e1.symm e3.symm
  rcases part_or h " " sp_tl.1 with ⟨a, b, e, ex⟩ | e
  · have sr : wt (wc 47) (tl b) ≤ 35 := by
      rw [ex, tl_append, tl_append, wt_app, wt_app] at hs
      omega
    have la : a.length ≤ h.length ∧ b.length ≤ h.length := by
      have := congrArg Str.length ex
      simp only [len_tl, tl_append, List.length_append] at this ⊢
      omega
    have sb : Sh b := Nat.le_trans la.2 hh
    refine ⟨a, " ", b, e, Nat.le_trans la.1 hh, sb, sr, fun z => no e fun k kt ok ew er => wh_ne ok kt (er.symm.trans z), fun n0 => ⟨rfl, ex, ?_⟩⟩
    rcases look_or a b sb n0 sr with ⟨k, kt, gk, ew, er, ec⟩ | ⟨cn, nn⟩
    · refine .inl ⟨k, kt, gk, ew, er, ec, lookM_of gk ?_⟩
      rw [ex, ew, er]
      exact (if_neg kt).symm
    · exact .inr ⟨cn, no e nn⟩
  · refine ⟨h, "", "", e, hh, Nat.zero_le _, Nat.zero_le _, fun _ => no e fun k kt ok ew er => wh_ne ok kt er.symm, fun z => absurd rfl z⟩
inductive PA
  | no
  | tx (z : Str)
  | row (zs : List Str)
def insT (x : Str) : Str := cutS x (some 1) (some (-1))
def rowT (x : Str) : List Str := if insT x = "" then [] else Txt.split (insT x) " "
def paM (x : Str) : Option PA := if x = "-" then some .no else if btw x "\"" "\"" = true then some (.tx (insT x)) else if btw x "(" ")" = true then some (.row (rowT x)) else none
theorem paM_no : paM "-" = some .no := if_pos rfl
theorem paM_tx (z : Str) : paM (anT (.tx z)) = some (.tx z) := by
  unfold paM
  rw [if_neg (tx_ne z), if_pos (btw_tx z)]
  rw [show insT (anT (.tx z)) = z from cut_tx z]
theorem paM_es {l : List (Str × Bool)} (h : ∀ e ∈ l, IsNm e.1) : paM (anT (.es l)) = some (.row (eS l)) := by
  unfold paM
  rw [if_neg (es_ne l), if_neg (by rw [(btw_es l).1]; decide), if_pos (btw_es l).2]
  have e : insT (anT (.es l)) = Txt.join " " (eS l) := cut_es l
  unfold rowT
  rw [e]
  by_cases z : l = []
  · rw [if_pos ((joinE_nil h).mpr z), z]
    rfl
  · rw [if_neg fun q => z ((joinE_nil h).mp q), split_es h z]
theorem starts_ex {x : Str} {c : Nat} (h : Txt.startswith x (mkS [c]) = true) : ∃ r, tl x = c :: r := by
  rw [sw_pre, tl_mkS] at h
  match e : tl x with
  | [] => rw [e] at h; simp at h
  | a :: r =>
    rw [e] at h
    simp at h
    exact ⟨r, by rw [h]⟩
theorem ends_ex {x : Str} {c : Nat} (h : Txt.endswith x (mkS [c]) = true) : ∃ r, tl x = r ++ [c] := by
  rw [ew, tl_mkS] at h
  have h2 := of_decide_eq_true ((Bool.and_eq_true _ _).mp h).2
  have h1 := of_decide_eq_true ((Bool.and_eq_true _ _).mp h).1
  refine ⟨(tl x).take ((tl x).length - 1), ?_⟩
  have h2 : (tl x).drop ((tl x).length - 1) = [c] := h2
  rw [← h2, List.take_append_drop]
theorem btw_ex {x : Str} {a b : Nat} (h : btw x (mkS [a]) (mkS [b]) = true) : x = mkS (a :: (tl (insT x) ++ [b])) := by
  unfold btw at h
  obtain ⟨h1, h23⟩ := (Bool.and_eq_true _ _).mp h
  obtain ⟨h2, h3⟩ := (Bool.and_eq_true _ _).mp h23
  obtain ⟨r, e1⟩ := starts_ex h2
  obtain ⟨q, e2⟩ := ends_ex h3
  have h1 := of_decide_eq_true h1
  rw [len_tl] at h1
  obtain ⟨m, em⟩ : ∃ m, r = m ++ [b] := by
    rw [e1] at e2
    cases q with
    | nil =>
      have := congrArg List.length e2
      rw [e1] at h1
      simp at this
      rw [this] at h1
      simp at h1
    | cons y u =>
      injection e2 with _ e3
      exact ⟨u, e3⟩
  have ex : x = mkS (a :: (m ++ [b])) := ext_tl (by rw [e1, em, tl_mkS])
  have ei : insT x = mkS m := by
    conv => lhs; rw [ex]
    exact cut_mid a b m
  rw [ei, tl_mkS]
  exact ex
theorem paM_tx_ex {x z : Str} (h : paM x = some (.tx z)) : x = anT (.tx z) := by
  unfold paM at h
  split at h
  · cases h
  · split at h
    · rename_i q
      cases h
      rw [q_mk.1] at q
      rw [tx_mk]
      exact btw_ex q
    · split at h <;> cases h
theorem paM_no_ex {x : Str} (h : paM x = some .no) : x = "-" := by
  unfold paM at h
  split at h
  · assumption
  · split at h
    · cases h
    · split at h <;> cases h
theorem paM_row_ex {x : Str} {zs : List Str} (h : paM x = some (.row zs)) : x = "(" ++ Txt.join " " zs ++ ")" ∧ zs = rowT x ∧ btw x "(" ")" = true := by
  unfold paM at h
  split at h
  · cases h
  · split at h
    · cases h
    · split at h
      · rename_i q
        cases h
        refine ⟨?_, rfl, q⟩
        have q2 := q
        rw [q_mk.2.1, q_mk.2.2.1] at q2
        have e : Txt.join " " (rowT x) = insT x := by
          unfold rowT
          by_cases z : insT x = ""
          · rw [if_pos z, z]
            decide +kernel
          · rw [if_neg z]
            obtain ⟨ps, e1, _, e2, _, _⟩ := parted " " 32 sp_tl.2.2.1 sl_cps.2 (insT x)
            rw [e1]
            exact e2.symm
        rw [e]
        refine (btw_ex q2).trans (ext_tl ?_)
        rw [tl_append, tl_append, an_tl.2.2.1, an_tl.2.2.2.1, tl_mkS]
        rfl
      · cases h
theorem paM_an {a : An} (g : GoodA a) : ∃ pa, paM (anT a) = some pa := by
  cases a with
  | no => exact ⟨_, paM_no⟩
  | tx z => exact ⟨_, paM_tx z⟩
  | es l => exact ⟨_, paM_es g.1⟩
def AnG (k : Lk) (a : An) : Prop := AnOk k a ∧ GoodA a ∧ AnW a
open Classical in
noncomputable def ansM (k : Lk) (x : Str) : Option An := if e : ∃ a, AnG k a ∧ x = anT a then some (Classical.choose e) else none
theorem ansM_some {k : Lk} {x : Str} {a : An} (e : ansM k x = some a) : AnG k a ∧ x = anT a := by
  unfold ansM at e
  split at e
  · rename_i q
    cases e
    exact Classical.choose_spec q
  · cases e
theorem ansM_of {k : Lk} {x : Str} {a : An} (g : AnG k a) (e : x = anT a) : ansM k x = some a := by
  have q : ∃ a, AnG k a ∧ x = anT a := ⟨a, g, e⟩
  unfold ansM
  rw [dif_pos q]
  have c := Classical.choose_spec q
  rw [an_inj c.1.2.1 g.2.1 (c.2.symm.trans e)]
theorem ansM_no {k : Lk} {x : Str} (g : ∀ a, AnG k a → x ≠ anT a) : ansM k x = none := by
  unfold ansM
  rw [dif_neg]
  rintro ⟨a, h, e⟩
  exact g a h e
theorem ansM_none {k : Lk} {x : Str} (h : paM x = none) : ansM k x = none := ansM_no fun a g e => by
  obtain ⟨pa, q⟩ := paM_an g.2.1
  rw [e, q] at h
  cases h
theorem ansM_dash (k : Lk) : ansM k "-" = if k = .tl ∨ k = .ls [] then none else some .no := by
  by_cases e : k = .tl ∨ k = .ls []
  · rw [if_pos e]
    refine ansM_no fun a g ea => ?_
    have : a = .no := an_inj g.2.1 (b := .no) trivial ea.symm
    subst this
    rcases e with rfl | rfl
    · exact g.1
    · exact g.1 rfl
  · rw [if_neg e]
    refine ansM_of ⟨?_, trivial, trivial⟩ rfl
    cases k with
    | rd p => trivial
    | ls p => exact fun z => e (.inr (by rw [z]))
    | se n => trivial
    | tl => exact absurd (.inl rfl) e
def isLs : Lk → Bool
  | .ls _ => true
  | _ => false
theorem ansM_tx {k : Lk} {z : Str} (n10 : 10 ∉ tl z) (zl : z.length ≤ 1000) (ok : Okz z) : ansM k (anT (.tx z)) = if isLs k = true then none else some (.tx z) := by
  have g : GoodA (.tx z) := ⟨n10, zl⟩
  cases k with
  | ls p =>
    refine ansM_no fun a h e => ?_
    have : a = .tx z := an_inj h.2.1 g e.symm
    subst this
    exact h.1
  | rd p => exact ansM_of ⟨trivial, g, ok⟩ rfl
  | se n => exact ansM_of ⟨trivial, g, ok⟩ rfl
  | tl => exact ansM_of ⟨trivial, g, ok⟩ rfl
theorem ansM_rowN {k : Lk} {x : Str} {zs : List Str} (h : paM x = some (.row zs)) (n : isLs k = false) : ansM k x = none := ansM_no fun a g e => by
  cases a with
  | no =>
    rw [e, show anT .no = "-" from rfl, paM_no] at h
    cases h
  | tx z =>
    rw [e, paM_tx] at h
    cases h
  | es l =>
    have := g.1
    cases k <;> first | exact this | cases n
end K3

set_option maxHeartbeats 3900000
namespace K3
open PySem PySem.Spec PyProof.Rows L2 TL
def NmR (z : Str) : Str := Txt.removesuffix z "/"
theorem rms_or (z : Str) : ∃ b, z = ent (NmR z) b := by
  cases e : Txt.endswith z "/" with
  | false => exact ⟨false, (rms_no e).symm⟩
  | true =>
    refine ⟨true, ext_tl ?_⟩
    have h := rms e
    rw [tl_sl] at h
    rw [tl_ent]
    have h : tl (NmR z) = (tl z).take ((tl z).length - 1) := h
    rw [h]
    rw [ew, tl_sl] at e
    have h2 := of_decide_eq_true ((Bool.and_eq_true _ _).mp e).2
    have h2 : (tl z).drop ((tl z).length - 1) = [47] := h2
    show tl z = (tl z).take ((tl z).length - 1) ++ [47]
    rw [← h2, List.take_append_drop]
theorem len_rms (z : Str) : (NmR z).length ≤ z.length := by
  obtain ⟨b, e⟩ := rms_or z
  have := congrArg (fun x => (tl x).length) e
  simp only [tl_ent, List.length_append] at this
  rw [len_tl, len_tl]
  omega
theorem ents_ex : ∀ {zs : List Str}, (∀ z ∈ zs, IsNm (NmR z)) → ∃ l : List (Str × Bool), zs = eS l ∧ (∀ e ∈ l, IsNm e.1) ∧ l.map (·.1) = zs.map NmR
  | [], _ => ⟨[], rfl, (fun e h => by cases h), rfl⟩
  | z :: r, h => by
    obtain ⟨l, e1, e2, e3⟩ := ents_ex (zs := r) fun x hx => h x (List.mem_cons_of_mem _ hx)
    obtain ⟨b, eb⟩ := rms_or z
    refine ⟨(NmR z, b) :: l, ?_, fun e he => ?_, ?_⟩
    · show z :: r = ent (NmR z) b :: eS l
      rw [← eb, ← e1]
    · rcases List.mem_cons.mp he with rfl | he
      · exact h z List.mem_cons_self
      · exact e2 e he
    · rw [List.map_cons, List.map_cons, e3]
theorem eS_nm {l : List (Str × Bool)} (h : ∀ e ∈ l, IsNm e.1) : (eS l).map NmR = l.map (·.1) := by
  rw [List.map_map]
  exact List.map_congr_left fun e he => rms_ent (h e he) e.2
abbrev Asc (l : List Str) : Prop := l.Pairwise (fun a b : Str => a.cps.toList < b.cps.toList)
def RowOk (zs : List Str) : Prop := (∀ z ∈ zs, IsNm (NmR z)) ∧ Asc (zs.map NmR)
theorem ansM_rowY {p : List Str} {x : Str} {zs : List Str} (h : paM x = some (.row zs)) (l40 : zs.length ≤ 40) (ok : RowOk zs) (ne : zs ≠ [] ∨ p = []) : ∃ l, zs = eS l ∧ (∀ e ∈ l, IsNm e.1) ∧ AnG (.ls p) (.es l) ∧ ansM (.ls p) x = some (.es l) := by
  obtain ⟨l, e1, e2, e3⟩ := ents_ex ok.1
  obtain ⟨ex, _⟩ := paM_row_ex h
  have ll : l.length = zs.length := by rw [e1]; exact (List.length_map ..).symm
  have g : AnG (.ls p) (.es l) := by
    refine ⟨⟨⟨e2, ?_, by omega⟩, ?_⟩, ⟨e2, by omega⟩, e2, by omega⟩
    · rw [e3]
      exact ok.2
    · refine ne.imp (fun q z => q ?_) id
      rw [e1, z]
      rfl
  refine ⟨l, e1, e2, g, ansM_of g ?_⟩
  rw [ex, e1]
  rfl
theorem ansM_rowB {p : List Str} {x : Str} {zs : List Str} (h : paM x = some (.row zs)) (no : ¬ RowOk zs ∨ (zs = [] ∧ p ≠ [])) : ansM (.ls p) x = none := ansM_no fun a g e => by
  cases a with
  | no =>
    rw [e, show anT .no = "-" from rfl, paM_no] at h
    cases h
  | tx z =>
    rw [e, paM_tx] at h
    cases h
  | es l =>
    rw [e, paM_es g.2.1.1] at h
    cases h
    rcases no with no | ⟨z, np⟩
    · refine no ⟨fun z hz => ?_, ?_⟩
      · obtain ⟨y, hy, rfl⟩ := List.mem_map.mp hz
        show IsNm (NmR (ent y.1 y.2))
        rw [show NmR (ent y.1 y.2) = y.1 from rms_ent (g.2.1.1 y hy) y.2]
        exact g.2.1.1 y hy
      · rw [eS_nm g.2.1.1]
        exact g.1.1.2.1
    · rcases g.1.2 with q | q
      · exact q (List.map_eq_nil_iff.mp z)
      · exact np q
theorem row_len {x : Str} {L : Nat} (hl : x.length ≤ L) (hb : wt (wc 32) (tl x) ≤ 35) : (rowT x).length ≤ 36 ∧ ∀ z ∈ rowT x, z.length ≤ L := by
  have ins : ∃ a b, tl x = a ++ (tl (insT x) ++ b) := by
    unfold insT
    rw [tl_cutS]
    refine ⟨(tl x).take (HT.sIx x.length 0 (some 1)), ((tl x).drop (HT.sIx x.length 0 (some 1))).drop (HT.sIx x.length x.length (some (-1)) - HT.sIx x.length 0 (some 1)), ?_⟩
    rw [List.take_append_drop, List.take_append_drop]
  obtain ⟨a, b, e⟩ := ins
  have e1 : wt (wc 32) (tl (insT x)) ≤ 35 := by
    rw [e, wt_app, wt_app] at hb
    omega
  have e2 : (insT x).length ≤ L := by
    rw [len_tl] at hl ⊢
    rw [e, List.length_append, List.length_append] at hl
    omega
  unfold rowT
  by_cases z : insT x = ""
  · rw [if_pos z]
    exact ⟨by decide, fun z hz => by cases hz⟩
  · rw [if_neg z]
    obtain ⟨ps, q1, _, _, q2, q3⟩ := parted " " 32 sp_tl.2.2.1 sl_cps.2 (insT x)
    rw [q1]
    exact ⟨by omega, fun z hz => Nat.le_trans (q3 z hz).2.1 e2⟩
theorem ins_mem {x : Str} : ∀ c ∈ tl (insT x), c ∈ tl x := fun c hc => by
  unfold insT at hc
  rw [tl_cutS] at hc
  exact List.mem_of_mem_drop (List.mem_of_mem_take hc)
theorem ins_len (x : Str) : (insT x).length ≤ x.length := by
  unfold insT
  rw [len_tl, tl_cutS, List.length_take, List.length_drop, len_tl x]
  omega
structure Lb (x : Str) : Prop where
  nn : 10 ∉ tl x
  sl : wt (wc 47) (tl x) ≤ 35
  bl : wt (wc 32) (tl x) ≤ 35
  ln : x.length ≤ 963
  ch : ∀ c ∈ tl x, c < 128
theorem LnOk.lb {B L : Nat} {l : Str} (h : LnOk B L l) (h1 : B ≤ 35) (h2 : L ≤ 963) : Lb l := ⟨h.nn, Nat.le_trans h.sl h1, Nat.le_trans h.bl h1, Nat.le_trans h.ln h2, h.ch⟩
theorem Lb.part {x a b c : Str} (h : Lb x) (e : x = a ++ b ++ c) : Lb a ∧ Lb c := by
  have sub : ∀ y p q, tl x = p ++ (tl y ++ q) → Lb y := fun y p q e2 => by
    have g1 := h.nn
    have g2 := h.sl
    have g3 := h.bl
    have g4 := h.ln
    have g5 := h.ch
    rw [len_tl] at g4
    rw [e2] at g1 g2 g3 g4 g5
    rw [wt_app, wt_app] at g2 g3
    rw [List.length_append, List.length_append, ← len_tl] at g4
    exact ⟨fun z => g1 (List.mem_append_right _ (List.mem_append_left _ z)), by omega, by omega, by omega, fun c hc => g5 c (List.mem_append_right _ (List.mem_append_left _ hc))⟩
  have e2 : tl x = tl a ++ tl b ++ tl c := by rw [e, tl_append, tl_append]
  exact ⟨sub a [] (tl b ++ tl c) (by rw [e2, List.nil_append, List.append_assoc]), sub c (tl a ++ tl b) [] (by rw [e2, List.append_nil])⟩
theorem Lb.sh {x : Str} (h : Lb x) : Sh x := Nat.le_trans h.ln (by decide)
theorem Lb.okz {x z : Str} (h : Lb x) (hz : ∀ c ∈ tl z, c ∈ tl x) : Okz z := okz_of fun c hc => by
  have := h.ch c (hz c hc)
  omega
noncomputable def telM (l : Str) : Option Sg :=
  if (Txt.partition l " : ").2.1 = "" then none else
  match lookM (Txt.partition l " : ").1 with
  | none => none
  | some k => match ansM k (Txt.partition l " : ").2.2 with
    | none => none
    | some a => some (k, a)
def SgG (s : Sg) : Prop := LkG s.1 ∧ AnG s.1 s.2
theorem telM_some {l : Str} {s : Sg} (h : telM l = some s) : SgG s ∧ l = lineT s := by
  unfold telM at h
  rcases part_or l " : " sp_tl.2.1 with ⟨a, b, e, ex⟩ | e
  · rw [e] at h
    split at h
    · cases h
    · split at h
      · cases h
      · rename_i k hk
        split at h
        · cases h
        · rename_i a2 ha
          cases h
          obtain ⟨g1, q1⟩ := lookM_some hk
          obtain ⟨g2, q2⟩ := ansM_some ha
          refine ⟨⟨g1, g2⟩, ?_⟩
          dsimp only at q1 q2
          rw [ex, q1, q2]
          rfl
  · rw [e, if_pos rfl] at h
    cases h
theorem telM_no {l h g x : Str} (e : Txt.partition l " : " = (h, g, x)) (n : g = "" ∨ lookM h = none ∨ ∃ k, lookM h = some k ∧ ansM k x = none) : telM l = none := by
  unfold telM
  rw [e]
  rcases n with n | n | ⟨k, n1, n2⟩
  · exact if_pos n
  · dsimp only
    rw [n]
    split <;> rfl
  · dsimp only
    rw [n1]
    dsimp only
    rw [n2]
    split <;> rfl
theorem telM_of {l h g x : Str} {k : Lk} {a : An} (e : Txt.partition l " : " = (h, g, x)) (n0 : g ≠ "") (n1 : lookM h = some k) (n2 : ansM k x = some a) : telM l = some (k, a) := by
  unfold telM
  rw [e]
  dsimp only
  rw [n1]
  dsimp only
  rw [n2, if_neg n0]
noncomputable def goM : List Str → List Sg → Nat ⊕ List Sg
  | [], acc => .inr acc
  | l :: r, acc => match telM l with
    | none => .inl acc.length
    | some s => if s.1 ∈ acc.map (·.1) then .inl acc.length else goM r (acc ++ [s])
def outM (l : Str) : Option Str := if l.length ≤ 1000 ∧ l = endT (insT (Txt.partition l " : ").2.2) then some (insT (Txt.partition l " : ").2.2) else none
theorem outM_some {l y : Str} (h : outM l = some y) : l = endT y := by
  unfold outM at h
  split at h
  · rename_i q
    cases h
    exact q.2
  · cases h
theorem outM_of {y : Str} (h : (endT y).length ≤ 1000) : outM (endT y) = some y := by
  unfold outM
  rw [part_end]
  dsimp only
  rw [show insT (anT (.tx y)) = y from cut_tx y, if_pos ⟨h, rfl⟩]
theorem goM_end {ls : List Str} {acc sg : List Sg} : goM ls acc = .inr sg → (∀ s ∈ acc, SgG s) → (acc.map (·.1)).Nodup → (∀ s ∈ sg, SgG s) ∧ (sg.map (·.1)).Nodup ∧ acc.map lineT ++ ls = sg.map lineT := by
  induction ls generalizing acc with
  | nil =>
    intro h g nd
    cases h
    exact ⟨g, nd, List.append_nil _⟩
  | cons l r ih =>
    intro h g nd
    unfold goM at h
    split at h
    · cases h
    · rename_i s hs
      split at h
      · cases h
      · rename_i nm
        obtain ⟨gs, el⟩ := telM_some hs
        obtain ⟨h1, h2, h3⟩ := ih h (fun x hx => (List.mem_append.mp hx).elim (g x) fun z => by rw [List.mem_singleton.mp z]; exact gs) (by
          rw [List.map_append]
          refine List.nodup_append.mpr ⟨nd, List.pairwise_singleton _ _, fun a ha b hb e => nm ?_⟩
          rw [List.map_singleton, List.mem_singleton] at hb
          rw [← hb, ← e]
          exact ha)
        refine ⟨h1, h2, ?_⟩
        rw [← h3, List.map_append, List.append_assoc, el]
        rfl
end K3

set_option maxHeartbeats 3900000
namespace K3
open PySem PySem.Spec PyProof.Rows L2 TL
open C8 (pss_cut tCut pe_gc)
open CB XW MS
abbrev sRIni : Stmt := inClass (top 39) 0
structure RCl (K : PySem.W.Frag) (mg : Str → Option Value) (C : Addr) : Prop where
  mg : mg "Run" = some (.ref C)
  cl : Cls K C
  n1 : NoAttr K C "sights"
  n2 : NoAttr K C "outcome"
structure ClIs (K : PySem.W.Frag) (C : Addr) : Prop where
  ha : PySem.W.findIn K (.ref C) "__class__" = some (some (.builtin "object.__class__"))
  hn : PySem.W.specialIn K (.builtin "object.__class__") "__get__" = some (some (.builtin "getset_descriptor.__get__"))
  ht : PySem.W.takesIn K (.builtin "object.__class__") = some true
  hm : PySem.W.mroIn K C (.type "object") = some true
  kC : PySem.W.kitOne K (.ref C) (.ref C) = some true
def SisT (H : Hp) (t : Addr) (ss : List (Lk × An)) : Prop := ∃ vs : List V, H t = some (.tup vs) ∧ vs.length = ss.length ∧ ∀ (i : Nat) (v : V) (s : Lk × An), vs[i]? = some v → ss[i]? = some s → SiAt H v s
theorem SisT.up {H H' : Hp} {t : Addr} {ss : List (Lk × An)} (h : SisT H t ss) (s : Same H H') : SisT H' t ss := by
  obtain ⟨vs, h1, h2, h3⟩ := h
  exact ⟨vs, s _ _ h1, h2, fun i v x a b => (h3 i v x a b).up s⟩
theorem SisT.tup {H H' : Hp} {t : Addr} {ss : List (Lk × An)} (h : SisT H t ss) (s : TupS H H') : SisT H' t ss := by
  obtain ⟨vs, h1, h2, h3⟩ := h
  exact ⟨vs, s _ _ h1, h2, fun i v x a b => (h3 i v x a b).tup s⟩
def RnAt (C : Addr) (H : Hp) (o : Addr) (ss : List (Lk × An)) (z : Str) : Prop := ∃ dx t, H o = some (.ins C dx [(("sights" : Str), .ref t), ("outcome", .str z)]) ∧ SisT H t ss
theorem RnAt.up {C : Addr} {H H' : Hp} {o : Addr} {ss : List (Lk × An)} {z : Str} (h : RnAt C H o ss z) (s : Same H H') : RnAt C H' o ss z := by
  obtain ⟨dx, t, h1, h2⟩ := h
  exact ⟨dx, t, s _ _ h1, h2.up s⟩
theorem lk_r1 (u v : V) : List.lookup ("sights" : Str) [(("sights" : Str), u), ("outcome", v)] = some u := by simp [List.lookup]
theorem lk_r2 (u v : V) : List.lookup ("outcome" : Str) [(("sights" : Str), u), ("outcome", v)] = some v := by
  have h1 : (("outcome" : Str) == ("sights" : Str)) = false := by decide +kernel
  have h2 : (("outcome" : Str) == ("outcome" : Str)) = true := by decide +kernel
  simp only [List.lookup, h1, h2]
def ButO (o : Addr) (H H' : Hp) : Prop := ∀ b u, H b = some u → b ≠ o → H' b = some u
def RMk (CS CA : Addr) (H0 H : Hp) (xs : List V) (os : List (Option (Lk × An))) (E : XK) (Q : List (Lk × An) → Prop) : Prop := Sgs H xs os ∧ os.length ≤ 1000 ∧
  ((∃ i, Bad os i ∧ EWant H0 "index" CS (.int (i : Int)) E) ∨ ∃ ss : List (Lk × An), os = ss.map some ∧ (ss.map (·.1)).Nodup ∧ ∀ oo, FstAp ss oo → (oo = none → Q ss) ∧ ∀ p, oo = some p → EWant2 H0 "first" "second" CA (.int (p.1 : Int)) (.int (p.2 : Int)) E)
def spRIni (C CS CA : Addr) : Sp := fun vs H Q E => ∃ o dx v xs os z, vs = [.ref o, v, .str z] ∧ H o = some (.ins C dx []) ∧ RowAt H v xs ∧
  RMk CS CA H H xs os E fun ss => ∀ H', ButO o H H' → RnAt C H' o ss z → Q .non H'
section
variable {P : Program} {w : World} {K : PySem.W.Frag} {mg : Str → Option Value} {base : Heap} {C CS CA : Addr}
theorem scRIni : FnScope ["self", "sights", "outcome", "plain"] ["self", "sights", "outcome"] (defScope sRIni) := ⟨rfl, rfl, rfl, by decide +kernel, rfl, by decide +kernel, by decide +kernel⟩
theorem ok_rini {f fS fT : Addr} {fd fdS fdT : FuncData} (F : Fun K "__init__" "Run.__init__" sRIni f fd) (T : TB mg) (R : RCl K mg C) (aSOR : At K mg "sights_of_run" fS fdS ["things"]) (GSOR : FnOk P w K mg base (CX P w) 7 fS fdS ["things"] (spSOR CS))
    (aTog : At K mg "check_together" fT fdT ["plain"]) (GTog : FnOk P w K mg base (CX P w) 9 fT fdT ["plain"] (spTog CA)) : FnOk P w K mg base (CX P w) 10 f fd ["self", "sights", "outcome"] (spRIni C CS CA) := by
  refine F.okX scRIni (fun vs H Q E h => ?_) (fun cdv A outer s H vs Q E hr h => ?_)
  · obtain ⟨o, dx, v, xs, os, z, rfl, _⟩ := h
    rfl
  · obtain ⟨o, dx, v, xs, os, z, rfl, ho, hv, hx, hl, k⟩ := h
    refine ⟨_, pss_cons (ps_set (i := 3) scRIni.nd rfl (Or.inl rfl) (pe_call GSOR (hr.mono (by decide)) rfl aSOR.m aSOR.k aSOR.b .nil (passes_call (takes_of rfl rfl rfl rfl) (fun _ _ _ _ h => h)) (pa_cons (pv 1) pa_nil)))
            (pss_cons (ps_expr (pe_call GTog (hr.mono (by decide)) rfl aTog.m aTog.k aTog.b .nil (passes_call (takes_of rfl rfl rfl rfl) (fun _ _ _ _ h => h)) (pa_cons (pv 3) pa_nil)))
            (pss_cons (ps_fld (pv 0) (pe_callTy call_tuple_of (by rfl) T.tuple (by decide +kernel) (pa_cons (pv 3) pa_nil)) rfl)
            (pss_one (ps_fld (pv 0) (pv 2) rfl)))), ?_⟩
    refine ⟨_, rfl, v, xs, os, rfl, hv, hx, hl, ?_⟩
    rcases k with ⟨i, bad, want⟩ | ⟨ss, rfl, nd, k⟩
    · exact .inr ⟨i, bad, want⟩
    · refine .inl ⟨ss, rfl, nd, fun D H1 s1 hD hDs => ?_⟩
      rw [List.length_map] at hl
      have good : ∀ s ∈ ss, SiOk' s := fun s hs => by
        obtain ⟨i, hi⟩ := List.getElem?_of_mem hs
        obtain ⟨xl, hx⟩ := hx
        rw [List.length_map] at xl
        have li := (List.getElem?_eq_some_iff.mp hi).1
        have := hx i xs[i] (some s) (List.getElem?_eq_getElem (by omega)) (by rw [List.getElem?_map, hi]; rfl)
        exact this.2
      refine ⟨_, rfl, D, ss, rfl, hDs, hl, good, fun oo fa => ?_⟩
      obtain ⟨k1, k2⟩ := k oo fa
      refine ⟨fun e H2 s2 => ?_, fun p e => (k2 p e).up s1⟩
      have s12 := s1.trans s2
      obtain ⟨vs, hD2, vl, hvs⟩ := hDs.up s2
      refine ⟨_, rfl, D, _, rfl, .inl ⟨SqL.of hD2, fun t ht => ?_⟩⟩
      have s3 := same_mk (o := .tup vs) ht
      have s13 := s12.trans s3
      have oT : o ≠ t := ne_of_none (s12 _ _ ho) ht
      have hst : SisT (upd H2 t (.tup vs)) t ss := ⟨vs, upd_same, vl, fun i v s a b => (hvs i v s a b).up s3⟩
      have ho3 := s13 _ _ ho
      generalize upd H2 t (.tup vs) = H3 at s3 s13 hst ho3 ⊢
      refine ⟨_, rfl, o, C, dx, [], rfl, ho3, R.cl, R.n1, by show 0 < 1000; decide, ?_⟩
      have t4 : TupS H3 (upd H3 o (.ins C dx [("sights", .ref t)])) := tupS_put ho3 fun xs z => by cases z
      refine ⟨_, rfl, _, rfl, o, C, dx, [("sights", .ref t)], rfl, upd_same, R.cl, R.n2, by show 1 < 1000; decide, ?_⟩
      have t5 : TupS H3 (upd (upd H3 o (.ins C dx [("sights", .ref t)])) o (.ins C dx [("sights", .ref t), ("outcome", .str z)])) := TupS.trans t4 (tupS_put upd_same fun xs z => by cases z)
      refine k1 e _ (fun b u hb nb => ?_) ⟨dx, t, upd_same, hst.tup t5⟩
      rw [upd_ne nb, upd_ne nb]
      exact s13 _ _ hb
end
end K3

set_option maxHeartbeats 3900000
namespace LW
open PySem PySem.Spec PyProof.Rows L2 TL
open C8 (pss_cut tCut pe_gc)
open CB
section
variable {J : It} {n : Nat} {G : Hp → Prop} {Y : Nat → Hp → V → Hp → Prop} {i j : Nat} {te : TE} {σ : L2.St} {H1 : Hp} {D : Addr} {Qd : Hp → Prop} {K : PySem.W.Frag}
theorem lcWT (w : Walk J n G Y) (hij : i ≠ j) (ys : List V) (hn : ys.length = n) (hs : n < 1000000) (hD : H1 D = none) (hG : ∀ H', Same H1 H' → G H')
    (turn : ∀ (m : Nat) (x y : V) (H2 H3 : Hp), ys[m]? = some y → Same H1 H2 → Y m H2 x H3 → H3 = H2 ∧ ∃ a b t, x = .ref t ∧ H2 t = some (.tup [a, b]) ∧ ∀ Q1 : VK, (∀ H4, Same H2 H4 → Q1 y H4) → te (((wipe σ [i, j]).set i (some a)).set j (some b)) H2 Q1)
    (hd : ∀ H', Same H1 H' → H' D = some (.lst ys) → Qd H') :
    ∃ W : Nat → Nat → Hp → Prop, (∃ m, W 0 m (upd H1 D (.lst []))) ∧ ∀ k m H, W k m H →
      (J.stop k H ∧ Qd H) ∨ (J.go k H ∧ ∃ Nx : Hp → Prop, (∀ H', Nx H' → ∃ m', m' < m ∧ W (k + 1) m' H') ∧ ∀ x H', J.yld k H x H' → gTup K 2 (gCons (gName i) (gCons (gName j) gNil)) x (wipe σ [i, j]) H' fun σ2 H2 => wipe σ2 [i, j] = wipe σ [i, j] ∧ tYes σ2 H2 fun b H3 =>
        if b = true then te σ2 H3 fun y H4 => ∃ acc, H4 D = some (.lst acc) ∧ acc.length < sizeLine ∧ Nx (upd H4 D (.lst (acc ++ [y]))) else Nx H3) := by
  subst hn
  refine lc_it w (fun i H' => Same H1 H' ∧ H' D = some (.lst (ys.take i))) ⟨same_mk hD, upd_same⟩ (fun i H' _ q => hG H' q.1) ?_ ?_
  · rintro m x H2 H3 hi ⟨s2, hd2⟩ y0
    have hy : ys[m]? = some ys[m] := List.getElem?_eq_getElem hi
    obtain ⟨rfl, a, b, t, rfl, ht, tn⟩ := turn m x ys[m] H2 H3 hy s2 y0
    refine ⟨t, _, rfl, SqT.of ht, rfl, a, _, rfl, b, _, rfl, rfl, wipe2 hij a b, ?_⟩
    refine tn _ fun H4 s4 => ⟨_, s4 _ _ hd2, ?_, same_ch (s2.trans s4) hD, ?_⟩
    · rw [List.length_take]
      exact Nat.lt_of_lt_of_le (show min m ys.length < 1000000 by omega) (by decide)
    · rw [upd_same, List.take_succ, hy]
      rfl
  · rintro H' ⟨s, h⟩
    rw [List.take_length] at h
    exact hd H' s h
end
end LW

set_option maxHeartbeats 3900000
namespace K3
open PySem PySem.Spec PyProof.Rows L2 TL
open C8 (pss_cut tCut pe_gc)
open CB XW LE LR
abbrev sWr : Stmt := top 45
abbrev sRd : Stmt := top 46
abbrev sLkTx : Stmt := top 47
abbrev sAnTx : Stmt := top 48
abbrev sSgIn : Stmt := top 49
abbrev sOuIn : Stmt := top 50
abbrev sLkIn : Stmt := top 51
abbrev sAnsIn : Stmt := top 52
abbrev sBtw : Stmt := top 53
structure TX (mg : Str → Option Value) : Prop where
  SIGN : ∃ t, mg "SIGN" = some (.str " : " t)
  NOTHING : ∃ t, mg "NOTHING" = some (.str "-" t)
  QUOTE : ∃ t, mg "QUOTE" = some (.str "\"" t)
def spLkTx : Sp := fun vs H Q _ => ∃ u k, vs = [.ref u] ∧ H u = some (.tup (lkV k)) ∧ LkOk k ∧ Q (.str (lkT k)) H
def spAnTx : Sp := fun vs H Q _ => ∃ v a, vs = [v] ∧ AnAt H v a ∧ GoodA a ∧ Q (.str (anT a)) H
def spWr (CR : Addr) : Sp := fun vs H Q _ => ∃ o sg y, vs = [.ref o] ∧ RnAt CR H o sg y ∧ sg.length ≤ 20 ∧ (∀ s ∈ sg, LkOk s.1 ∧ GoodA s.2) ∧ y.length ≤ 1000 ∧ 10 ∉ tl y ∧ ∀ H', Same H H' → Q (.str (runT sg y)) H'
theorem wd_lens : ("read" : Str).length ≤ 7 ∧ ("list" : Str).length ≤ 7 ∧ ("setting" : Str).length ≤ 7 ∧ ("tool" : Str).length ≤ 7 := by decide +kernel
theorem wd_len (k : Lk) : (wdT k).length ≤ 7 := by
  cases k
  · exact wd_lens.1
  · exact wd_lens.2.1
  · exact wd_lens.2.2.1
  · exact wd_lens.2.2.2
theorem pt_wh {k : Lk} (ok : LkOk k) (h : k ≠ .tl) : (if ptT k = "" then ("/" : Str) else ptT k) = whT k := by
  cases k with
  | rd p => exact if_neg (js_ne ok.2.1 ok.1)
  | ls p =>
    show (if js p = "" then ("/" : Str) else js p) = (if p = [] then ("/" : Str) else js p)
    by_cases e : p = []
    · subst e
      rfl
    · rw [if_neg (js_ne ok.1 e), if_neg e]
  | se n => exact if_neg fun e => nm_ne ok (by show tl n = []; rw [show n = "" from e]; decide +kernel)
  | tl => exact absurd rfl h
theorem pt_len {k : Lk} (h : LkOk k) : (ptT k).length ≤ 1000 := by
  cases k with
  | rd p => exact js_sh h.2.1 (by have := h.2.2; omega)
  | ls p => exact js_sh h.1 (by have := h.2; omega)
  | se n => exact nm_sh h
  | tl => exact Nat.zero_le _
theorem str_add_len (x y : Str) : (x ++ y).length = x.length + y.length := by rw [len_tl, len_tl x, len_tl y, tl_append, List.length_append]
theorem lit_len : (" : " : Str).length = 3 ∧ ("\"" : Str).length = 1 ∧ ("(" : Str).length = 1 ∧ (")" : Str).length = 1 ∧ (" " : Str).length = 1 ∧ ("end" : Str).length = 3 ∧ ("-" : Str).length = 1 ∧ ("\n" : Str).length = 1 := by decide +kernel
theorem join_len (y : Str) : ∀ ps : List Str, (Txt.join y ps).length ≤ (ps.map (·.length)).sum + ps.length * y.length := by
  intro ps
  rw [len_tl, tl_tjoin, len_tl y]
  have main : ∀ (S : List Nat) (qs : List (List Nat)), (joinL S qs).length ≤ (qs.map (·.length)).sum + qs.length * S.length := by
    intro S qs
    induction qs with
    | nil => simp [joinL]
    | cons a r ih =>
      cases r with
      | nil => simp [joinL]
      | cons b r =>
        show (a ++ (S ++ joinL S (b :: r))).length ≤ _
        rw [List.length_append, List.length_append, List.map_cons, List.sum_cons, List.length_cons, Nat.succ_mul]
        omega
  have := main (tl y) (ps.map tl)
  rw [List.map_map, List.length_map] at this
  have e : ps.map ((fun x => x.length) ∘ tl) = ps.map (·.length) := List.map_congr_left fun p _ => (len_tl p).symm
  rw [e] at this
  exact this
theorem sum_le {ps : List Str} {b : Nat} (h : ∀ p ∈ ps, p.length ≤ b) : (ps.map (·.length)).sum ≤ ps.length * b := by
  induction ps with
  | nil => simp
  | cons p r ih =>
    rw [List.map_cons, List.sum_cons, List.length_cons, Nat.succ_mul]
    have := ih fun q hq => h q (List.mem_cons_of_mem _ hq)
    have := h p List.mem_cons_self
    omega
theorem ent_len {n : Str} (h : IsNm n) (b : Bool) : (ent n b).length ≤ 9 := by
  rw [len_tl, tl_ent, List.length_append]
  have := h.2.1
  rw [len_tl] at this
  have e : (if b = true then [47] else ([] : List Nat)).length ≤ 1 := by cases b <;> decide
  omega
theorem es_sum {l : List (Str × Bool)} (h : ∀ e ∈ l, IsNm e.1) (hl : l.length ≤ 40) : ((eS l).map (·.length)).sum + (eS l).length * 1 ≤ 400 := by
  have q := sum_le (ps := eS l) (b := 9) fun p hp => by
    obtain ⟨e, he, rfl⟩ := List.mem_map.mp hp
    exact ent_len (h e he) e.2
  have e : (eS l).length = l.length := List.length_map ..
  rw [e] at q ⊢
  omega
theorem an_len {a : An} (h : GoodA a) : (anT a).length ≤ 1010 := by
  obtain ⟨_, l2, l3, l4, l5, _, l7, _⟩ := lit_len
  cases a with
  | no => show ("-" : Str).length ≤ 1010; rw [l7]; decide
  | tx z =>
    show ("\"" ++ z ++ "\"" : Str).length ≤ 1010
    rw [str_add_len, str_add_len, l2]
    have := h.2
    omega
  | es l =>
    show ("(" ++ Txt.join " " (eS l) ++ ")" : Str).length ≤ 1010
    rw [str_add_len, str_add_len, l3, l4]
    have q := join_len " " (eS l)
    have r := es_sum h.1 h.2
    rw [l5] at q
    omega
theorem lk_len {k : Lk} (h : LkOk k) : (lkT k).length ≤ 1010 := by
  have := pt_len h
  have := wd_len k
  have l1 : (" " : Str).length = 1 := by decide +kernel
  unfold lkT
  by_cases e : k = .tl
  · rw [if_pos e]
    have := wd_lens.2.2.2
    omega
  · rw [if_neg e, str_add_len, str_add_len, l1, ← pt_wh h e]
    by_cases e2 : ptT k = ""
    · rw [if_pos e2, show ("/" : Str).length = 1 from by decide +kernel]
      omega
    · rw [if_neg e2]
      omega
theorem line_len {s : Sg} (h : LkOk s.1) (g : GoodA s.2) : (lineT s).length ≤ 2023 := by
  have := lk_len h
  have := an_len g
  unfold lineT
  rw [str_add_len, str_add_len, lit_len.1]
  omega
theorem end_len {y : Str} (g : y.length ≤ 1000) : (endT y).length ≤ 1010 := by
  obtain ⟨l1, l2, _, _, _, l6, _⟩ := lit_len
  show ("end" ++ " : " ++ ("\"" ++ y ++ "\"") : Str).length ≤ 1010
  rw [str_add_len, str_add_len, str_add_len, str_add_len, l1, l2, l6]
  omega
theorem ents_V (l : List (Str × Bool)) : l.map entV = (eS l).map V.str := by rw [List.map_map]; rfl
section
variable {P : Program} {w : World} {K : PySem.W.Frag} {mg : Str → Option Value} {base : Heap} {CR : Addr}
theorem scLkTx : FnScope ["look"] ["look"] (defScope sLkTx) := ⟨rfl, rfl, rfl, by decide +kernel, rfl, by decide +kernel, by decide +kernel⟩
theorem ok_lktx {f : Addr} {fd : FuncData} (F : Fun K "look_text" "look_text" sLkTx f fd) (T0 : TPk mg) : FnOk P w K mg base CX0 1 f fd ["look"] spLkTx := by
  refine F.ok scLkTx (fun vs H Q E h => ?_) (fun cdv A outer s H vs Q E hr h => ?_)
  · obtain ⟨u, k, rfl, _⟩ := h
    rfl
  · obtain ⟨u, k, rfl, hu, ok, fin⟩ := h
    have pl := pt_len ok
    have T := T0.b
    obtain ⟨_, mSTROKE⟩ := T0.STROKE
    obtain ⟨_, mROOT⟩ := T0.ROOT
    refine ⟨_, pss_cons (ps_if (pt_cmpR op_eq (pe_callB call_len_seq (by rfl) T.len PySem.boot_len (pa_cons (pv 0) pa_nil)) pe_int (nomark _)) (pss_one (ps_ret (pe_ix ix_tup (pv 0) pe_int (fun _ _ => rfl)))) (pss_nil))
            (pss_one (ps_ret (pe_op op_add_str (pe_op op_add_str (pe_ix ix_tup (pv 0) pe_int (fun _ _ => rfl)) pe_str) (pe_ifExp (pt_cmpR op_eq (pe_ix ix_tup (pv 0) pe_int (fun _ _ => rfl)) (pe_glob (v := .str "") rfl mROOT ⟨_, rfl⟩) (nomark _)) (pe_glob (v := .str "/") rfl mSTROKE ⟨_, rfl⟩) (pe_ix ix_tup (pv 0) pe_int (fun _ _ => rfl)))))), ?_⟩
    by_cases e : k = .tl
    · subst e
      have e2 : lkT .tl = "tool" := if_pos rfl
      rw [e2] at fin
      refine ⟨_, rfl, u, _, rfl, .inr (SqT.of hu), rfl, ?_⟩
      exact ⟨_, rfl, iteT ⟨_, rfl, u, _, 0, _, rfl, rfl, SqT.of hu, atI_nat (j := 0) rfl, fin⟩⟩
    · rw [lkV_pt e] at hu
      have e2 : lkT k = wdT k ++ " " ++ whT k := if_neg e
      have e3 := pt_wh ok e
      have wl := wd_len k
      obtain ⟨_, _, _, _, l5, _⟩ := lit_len
      have sz : 3100 ≤ sizeLine := by decide
      have l9 : (wdT k ++ " " : Str).length ≤ 8 := by rw [str_add_len, l5]; omega
      rw [e2] at fin
      refine ⟨_, rfl, u, _, rfl, .inr (SqT.of hu), rfl, _, rfl, iteF ⟨_, rfl, u, _, 0, _, rfl, rfl, SqT.of hu, atI_nat (j := 0) rfl, _, _, rfl, rfl, by rw [l5]; omega, _, rfl, u, _, 1, _, rfl, rfl, SqT.of hu, atI_nat (j := 1) rfl, rfl, ?_⟩⟩
      by_cases e4 : ptT k = ""
      · rw [if_pos e4] at e3
        rw [← e3] at fin
        rw [show decide (V.str (ptT k) = V.str "") = true from decide_eq_true (by rw [e4])]
        refine ⟨_, rfl, iteT ⟨_, _, rfl, rfl, ?_, fin⟩⟩
        rw [show ("/" : Str).length = 1 from by decide +kernel]
        omega
      · rw [if_neg e4] at e3
        rw [← e3] at fin
        rw [show decide (V.str (ptT k) = V.str "") = false from decide_eq_false fun q => e4 (V.str.inj q)]
        exact ⟨_, rfl, iteF ⟨_, rfl, u, _, 1, _, rfl, rfl, SqT.of hu, atI_nat (j := 1) rfl, _, _, rfl, rfl, by omega, fin⟩⟩
theorem scAnTx : FnScope ["answer"] ["answer"] (defScope sAnTx) := ⟨rfl, rfl, rfl, by decide +kernel, rfl, by decide +kernel, by decide +kernel⟩
theorem ok_antx {f : Addr} {fd : FuncData} (F : Fun K "answer_text" "answer_text" sAnTx f fd) (T : TB mg) (X0 : TX mg) : FnOk P w K mg base CX0 1 f fd ["answer"] spAnTx := by
  refine F.ok scAnTx (fun vs H Q E h => ?_) (fun cdv A outer s H vs Q E hr h => ?_)
  · obtain ⟨v, a, rfl, _⟩ := h
    rfl
  · obtain ⟨v, a, rfl, ha, ga, fin⟩ := h
    obtain ⟨_, mNOTHING⟩ := X0.NOTHING
    obtain ⟨_, mQUOTE⟩ := X0.QUOTE
    refine ⟨_, pss_cons (ps_if (pt_cmp (pc_isN (pv 0))) (pss_one (ps_ret (pe_glob (v := .str "-") rfl mNOTHING ⟨_, rfl⟩))) (pss_nil))
            (pss_cons (ps_if (pt_val (pe_callB call_isi (by rfl) T.isinstance (by decide +kernel) (pa_cons (pv 0) (pa_cons (pe_bltn (v := .ty "str") (by rfl) T.str (by decide +kernel) rfl) pa_nil)))) (pss_one (ps_ret (pe_op op_add_str (pe_op op_add_str (pe_glob (v := .str "\"") rfl mQUOTE ⟨_, rfl⟩) (pv 0)) (pe_glob (v := .str "\"") rfl mQUOTE ⟨_, rfl⟩)))) (pss_nil))
            (pss_one (ps_ret (pe_op op_add_str (pe_op op_add_str pe_str (pe_join pe_str (pv 0))) pe_str)))), ?_⟩
    cases a with
    | no =>
      obtain rfl : v = .non := ha
      exact ⟨_, rfl, _, rfl, iteT fin⟩
    | tx z =>
      obtain rfl : v = .str z := ha
      have zl := ga.2
      obtain ⟨_, l2, _⟩ := lit_len
      have sz : 3100 ≤ sizeLine := by decide
      refine ⟨_, rfl, _, rfl, iteF ⟨_, rfl, _, _, .type "str", .type "str", true, rfl, .ty "str", .base (.str _), kit_ty (by decide +kernel), _, rfl, iteT ⟨_, rfl, _, _, rfl, rfl, by rw [l2]; omega, _, _, rfl, rfl, by rw [str_add_len, l2]; omega, fin⟩⟩⟩
    | es l =>
      obtain ⟨q, rfl, hq⟩ := ha
      obtain ⟨_, _, l3, l4, l5, _⟩ := lit_len
      have sz : 3100 ≤ sizeLine := by decide
      have es := es_sum ga.1 ga.2
      have jl2 := join_len " " (eS l)
      rw [l5] at jl2
      rw [ents_V] at hq
      refine ⟨_, rfl, _, rfl, iteF ⟨_, rfl, _, _, .type "tuple", .type "str", false, rfl, .ty "str", .base (.tup hq), kit_ty (by decide +kernel), _, rfl, iteF ?_⟩⟩
      exact ⟨⟨_, rfl⟩, _, rfl, _, q, eS l, rfl, rfl, .inr (SqT.of hq), by rw [l5]; omega, _, _, rfl, rfl, by rw [l3]; omega, _, _, rfl, rfl, by rw [str_add_len, l3, l4]; omega, fin⟩
end
end K3

set_option maxHeartbeats 3900000
namespace K3
open PySem PySem.Spec PyProof.Rows L2 TL
open C8 (pss_cut tCut pe_gc)
open CB XW LE LR
theorem run_sum {sg : List Sg} {y : Str} (h : ∀ s ∈ sg, LkOk s.1 ∧ GoodA s.2) (l : sg.length ≤ 20) (g : y.length ≤ 1000) : ((sg.map lineT ++ [endT y]).map (·.length)).sum + (sg.map lineT ++ [endT y]).length * 1 ≤ 43000 := by
  have q := sum_le (ps := sg.map lineT ++ [endT y]) (b := 2023) fun p hp => by
    rcases List.mem_append.mp hp with hp | hp
    · obtain ⟨s, hs, rfl⟩ := List.mem_map.mp hp
      exact line_len (h s hs).1 (h s hs).2
    · rw [List.mem_singleton] at hp
      rw [hp]
      have := end_len g
      omega
  have e : (sg.map lineT ++ [endT y]).length = sg.length + 1 := by rw [List.length_append, List.length_map]; rfl
  rw [e] at q ⊢
  have : (sg.length + 1) * 2023 ≤ 21 * 2023 := Nat.mul_le_mul (by omega) (Nat.le_refl _)
  omega
theorem run_len {sg : List Sg} {y : Str} (h : ∀ s ∈ sg, LkOk s.1 ∧ GoodA s.2) (l : sg.length ≤ 20) (g : y.length ≤ 1000) : (runT sg y).length ≤ 43000 := by
  have q := join_len "\n" (sg.map lineT ++ [endT y])
  rw [lit_len.2.2.2.2.2.2.2] at q
  exact Nat.le_trans q (run_sum h l g)
def spBtw : Sp := fun vs H Q _ => ∃ x q r : Str, vs = [.str x, .str q, .str r] ∧ x.length ≤ 1000000 ∧ Q (.bl (btw x q r)) H
section
variable {P : Program} {w : World} {K : PySem.W.Frag} {mg : Str → Option Value} {base : Heap} {CR : Addr}
theorem scWr : FnScope ["run", "lines", "look", "answer"] ["run"] (defScope sWr) := ⟨rfl, rfl, rfl, by decide +kernel, rfl, by decide +kernel, by decide +kernel⟩
theorem ok_wr {f fL fA : Addr} {fd fdL fdA : FuncData} (F : Fun K "write_run" "write_run" sWr f fd) (X0 : TX mg) (R : RCl K mg CR) (aLkTx : At K mg "look_text" fL fdL ["look"]) (GLkTx : FnOk P w K mg base CX0 1 fL fdL ["look"] spLkTx) (aAnTx : At K mg "answer_text" fA fdA ["answer"]) (GAnTx : FnOk P w K mg base CX0 1 fA fdA ["answer"] spAnTx) : FnOk P w K mg base CX0 2 f fd ["run"] (spWr CR) := by
  refine F.ok scWr (fun vs H Q E h => ?_) (fun cdv A outer s H vs Q E hr h => ?_)
  · obtain ⟨o, sg, y, rfl, _⟩ := h
    rfl
  · obtain ⟨o, sg, y, rfl, ⟨dx, t, ho, vs, ht, vl, hvs⟩, hl, ok, yl, n10, fin⟩ := h
    obtain ⟨_, mSIGN⟩ := X0.SIGN
    have sz : 1000000 ≤ sizeLine := by decide
    obtain ⟨l1, l2, _, _, _, l6, _, l8⟩ := lit_len
    refine ⟨_, pss_cons (ps_setLc (i := 1) (own := [("look", 2), ("answer", 3)]) (g := gTup K 2 (gCons (gName 2) (gCons (gName 3) gNil))) (tt := tYes) rfl scWr.nd rfl rfl (sw_true rfl rfl rfl (by decide +kernel)) (pi_tup (pe_fld (pv 0) rfl)) (blkOk_by (own := [("look", 2), ("answer", 3)]) (N := ["run", "lines", "look", "answer"]) (sc := defScope sWr) (by decide +kernel)) (fun _ _ _ _ _ => (pg_tupK (K0 := K) rfl rfl (pgs_cons (pg_name (i := 2) scWr.nd rfl (Or.inl rfl)) (pgs_cons (pg_name (i := 3) scWr.nd rfl (Or.inl rfl)) pgs_nil)))) (fun _ _ _ _ _ => pts_nil) (fun _ _ _ _ _ => (by exact (pe_op op_add_str (pe_op op_add_str (pe_call GLkTx (hr.mono (by decide)) rfl aLkTx.m aLkTx.k aLkTx.b .nil pass0 (pa_cons (pv 2) pa_nil)) (pe_glob (v := .str " : ") rfl mSIGN ⟨_, rfl⟩)) (pe_call GAnTx (hr.mono (by decide)) rfl aAnTx.m aAnTx.k aAnTx.b .nil pass0 (pa_cons (pv 3) pa_nil))))))
            (pss_one (ps_ret (pe_join pe_str (pe_op op_cat (pv 1) (pe_lst (pa_cons (pe_op op_add_str (pe_op op_add_str pe_str (pe_glob (v := .str " : ") rfl mSIGN ⟨_, rfl⟩)) (pe_call GAnTx (hr.mono (by decide)) rfl aAnTx.m aAnTx.k aAnTx.b .nil pass0 (pa_cons (pe_fld (pv 0) rfl) pa_nil))) pa_nil)))))), ?_⟩
    refine ⟨_, rfl, o, CR, dx, _, _, rfl, ho, R.cl, R.n1, lk_r1 _ _, t, rfl, ⟨_, SqT.of ht⟩, fun L hL => ?_⟩
    refine LW.lcWT (walk_tup (K := K) (a := t) (xs := vs)) (by decide) (sg.map fun s => .str (lineT s)) (by rw [List.length_map, vl]) (by omega) hL (fun H2 s2 => SqT.of (s2 _ _ ht)) ?_ ?_
    · rintro m x0 z H2 _ hy s2 ⟨rfl, hx⟩
      rw [List.getElem?_map] at hy
      obtain ⟨sgm, hk, rfl⟩ := Option.map_eq_some_iff.mp hy
      obtain ⟨tt, u, va, e1, h1, h2, h3⟩ := (hvs m x0 sgm hx hk).up s2
      have okk := ok sgm (List.mem_of_getElem? hk)
      have a1 := lk_len okk.1
      have a2 := an_len okk.2
      refine ⟨rfl, .ref u, va, tt, e1, h1, fun Q1 q1 => ?_⟩
      exact ⟨_, rfl, u, sgm.1, rfl, h2, okk.1, _, _, rfl, rfl, by rw [l1]; omega, _, rfl, va, sgm.2, rfl, h3, okk.2, _, _, rfl, rfl, by rw [str_add_len, l1]; omega, q1 _ (Same.refl _)⟩
    · intro H2 s2 hL2
      have ho2 := s2 _ _ ho
      have gy : GoodA (.tx y) := ⟨n10, yl⟩
      have a2 := an_len (a := .tx y) gy
      refine ⟨⟨_, rfl⟩, _, rfl, _, _, rfl, rfl, by rw [l1, l6]; omega, _, rfl, o, CR, dx, _, _, rfl, ho2, R.cl, R.n2, lk_r2 _ _, .str y, .tx y, rfl, rfl, gy, _, _, rfl, rfl, by rw [str_add_len, l1, l6]; omega, by show 1 ≤ sizeLine; decide, fun B hB => ?_⟩
      have s3 := same_mk (o := .lst [.str (endT y)]) hB
      have hB2 := upd_same (H := H2) (a := B) (o := .lst [.str (endT y)])
      refine ⟨L, B, _, _, rfl, rfl, s3 _ _ hL2, hB2, by rw [List.length_map]; show sg.length + 1 ≤ sizeLine; omega, fun C hC => ?_⟩
      have s4 := same_mk (o := .lst ((sg.map fun s => V.str (lineT s)) ++ [.str (endT y)])) hC
      have e : (sg.map fun s => V.str (lineT s)) ++ [.str (endT y)] = (sg.map lineT ++ [endT y]).map V.str := by
        rw [List.map_append, List.map_map]
        rfl
      refine ⟨_, C, sg.map lineT ++ [endT y], rfl, rfl, .inl (SqL.of (by rw [upd_same, e])), ?_, fin _ ((s2.trans s3).trans s4)⟩
      have := run_sum ok hl yl
      rw [l8]
      omega
theorem scBtw : FnScope ["text", "first", "last"] ["text", "first", "last"] (defScope sBtw) := ⟨rfl, rfl, rfl, by decide +kernel, rfl, by decide +kernel, by decide +kernel⟩
theorem ok_btw {f : Addr} {fd : FuncData} (F : Fun K "is_between" "is_between" sBtw f fd) (T : TB mg) : FnOk P w K mg base CX0 1 f fd ["text", "first", "last"] spBtw := by
  refine F.ok scBtw (fun vs H Q E h => ?_) (fun cdv A outer s H vs Q E hr h => ?_)
  · obtain ⟨x, q, r, rfl, _⟩ := h
    rfl
  · obtain ⟨x, q, r, rfl, xl, fin⟩ := h
    have sz : 1000000 ≤ sizeLine := by decide
    refine ⟨_, pss_one (ps_ret (pe_and (pe_cmpR op_gt (pe_callB call_len_str (by rfl) T.len PySem.boot_len (pa_cons (pv 0) pa_nil)) pe_int (nomark _)) (pe_and (pe_bm PySem.F.plainAttrs_str PySem.F.slot_str_startswith PySem.F.type_str_startswith mt_startswith (pv 0) (pa_cons (pv 1) pa_nil)) (pe_one (pe_bm PySem.F.plainAttrs_str PySem.F.slot_str_endswith PySem.F.type_str_endswith mt_endswith (pv 0) (pa_cons (pv 2) pa_nil)))))), ?_⟩
    refine ⟨_, rfl, x, rfl, by omega, _, _, rfl, rfl, _, rfl, ?_⟩
    unfold btw at fin
    by_cases h1 : 1 < x.length
    · rw [decide_eq_true h1, Bool.true_and] at fin
      rw [decide_eq_true (show (1 : Int) < (x.length : Int) by omega)]
      refine iteT ⟨_, rfl, rfl, _, rfl, x, q, rfl, rfl, _, rfl, ?_⟩
      cases h2 : Txt.startswith x q with
      | true =>
        rw [h2, Bool.true_and] at fin
        exact iteT ⟨_, rfl, rfl, _, rfl, x, r, rfl, rfl, fin⟩
      | false =>
        rw [h2, Bool.false_and] at fin
        exact iteF fin
    · rw [decide_eq_false h1, Bool.false_and] at fin
      rw [decide_eq_false (show ¬ (1 : Int) < (x.length : Int) by omega)]
      exact iteF fin
end
end K3

set_option maxHeartbeats 3900000
namespace K3
open PySem PySem.Spec PyProof.Rows L2 TL
open C8 (pss_cut tCut pe_gc)
open CB XW LE LR
theorem eq_str {a b : Str} (h : a ≠ b) : decide (V.str a = V.str b) = false := decide_eq_false fun e => h (V.str.inj e)
theorem eq_strT (a : Str) : decide (V.str a = V.str a) = true := decide_eq_true rfl
def PaAt (H : Hp) (v : V) : PA → Prop
  | .no => v = .non
  | .tx z => v = .str z
  | .row zs => ∃ a, v = .ref a ∧ H a = some (.tup (zs.map V.str))
theorem PaAt.up {H H' : Hp} {v : V} {pa : PA} (h : PaAt H v pa) (s : Same H H') : PaAt H' v pa := by
  cases pa with
  | no => exact h
  | tx z => exact h
  | row zs =>
    obtain ⟨a, e, h⟩ := h
    exact ⟨a, e, s _ _ h⟩
def PaR (H : Hp) (L : Addr) : Option PA → Prop
  | none => H L = some (.lst [])
  | some pa => ∃ v, H L = some (.lst [v]) ∧ PaAt H v pa
def LkR (H : Hp) (v : V) : Option Lk → Prop
  | none => v = .non
  | some k => ∃ u, v = .ref u ∧ H u = some (.tup (lkV k))
def SgR (H : Hp) (v : V) : Option Sg → Prop
  | none => v = .non
  | some s => SiAt H v s
def ouV : Option Str → V
  | none => .non
  | some y => .str y
def spAnsInX : Sp := fun vs H Q _ => ∃ x, vs = [.str x] ∧ x.length ≤ 1000 ∧ ∀ L H', Same H H' → PaR H' L (paM x) → Q (.ref L) H'
def spLkInX : Sp := fun vs H Q _ => ∃ h, vs = [.str h] ∧ Lb h ∧ ∀ v H', Same H H' → LkR H' v (lookM h) → Q v H'
def spSgInX : Sp := fun vs H Q _ => ∃ l, vs = [.str l] ∧ Lb l ∧ ∀ v H', Same H H' → SgR H' v (telM l) → Q v H'
def spOuInX : Sp := fun vs H Q _ => ∃ l, vs = [.str l] ∧ Lb l ∧ ∀ H', Same H H' → Q (ouV (outM l)) H'
theorem paM_nil : paM "" = none := by
  unfold paM
  rw [if_neg (by decide +kernel), if_neg (by decide +kernel), if_neg (by decide +kernel)]
section
variable {P : Program} {w : World} {K : PySem.W.Frag} {mg : Str → Option Value} {base : Heap} {CR : Addr}
theorem scAnsIn : FnScope ["shown", "inside"] ["shown"] (defScope sAnsIn) := ⟨rfl, rfl, rfl, by decide +kernel, rfl, by decide +kernel, by decide +kernel⟩
theorem ok_ansinX {f fB : Addr} {fd fdB : FuncData} (F : Fun K "answers_in" "answers_in" sAnsIn f fd) (T : TB mg) (X0 : TX mg) (aBtw : At K mg "is_between" fB fdB ["text", "first", "last"]) (GBtw : FnOk P w K mg base CX0 1 fB fdB ["text", "first", "last"] spBtw) : FnOk P w K mg base CX0 2 f fd ["shown"] spAnsInX := by
  refine F.ok scAnsIn (fun vs H Q E h => ?_) (fun cdv A outer s H vs Q E hr h => ?_)
  · obtain ⟨a, rfl, _⟩ := h
    rfl
  · obtain ⟨x, rfl, xl, fin⟩ := h
    obtain ⟨_, mNOTHING⟩ := X0.NOTHING
    obtain ⟨_, mQUOTE⟩ := X0.QUOTE
    have sz : 1000000 ≤ sizeLine := by decide
    refine ⟨_, pss_cons (ps_set (i := 1) scAnsIn.nd rfl (Or.inl rfl) (pe_slice sl_str (pv 0) (po_some pe_int) (po_some (pe_un un_neg pe_int))))
            (pss_cons (ps_if (pt_cmpR op_eq (pv 0) (pe_glob (v := .str "-") rfl mNOTHING ⟨_, rfl⟩) (nomark _)) (pss_one (ps_ret (pe_lst (pa_cons pe_non pa_nil)))) (pss_nil))
            (pss_cons (ps_if (pt_val (pe_call GBtw (hr.mono (by decide)) rfl aBtw.m aBtw.k aBtw.b .nil pass0 (pa_cons (pv 0) (pa_cons (pe_glob (v := .str "\"") rfl mQUOTE ⟨_, rfl⟩) (pa_cons (pe_glob (v := .str "\"") rfl mQUOTE ⟨_, rfl⟩) pa_nil))))) (pss_one (ps_ret (pe_lst (pa_cons (pv 1) pa_nil)))) (pss_nil))
            (pss_cons (ps_if (pt_val (pe_call GBtw (hr.mono (by decide)) rfl aBtw.m aBtw.k aBtw.b .nil pass0 (pa_cons (pv 0) (pa_cons pe_str (pa_cons pe_str pa_nil))))) (pss_one (ps_ret (pe_lst (pa_cons (pe_ifExp (pt_cmpR op_ne (pv 1) pe_str (nomark _)) (pe_callTy call_tuple_of (by rfl) T.tuple (by decide +kernel) (pa_cons (pe_bm PySem.F.plainAttrs_str PySem.F.slot_str_split PySem.F.type_str_split mt_split (pv 1) (pa_cons pe_str pa_nil)) pa_nil)) (pe_tup pa_nil)) pa_nil)))) (pss_nil))
            (pss_one (ps_ret (pe_lst pa_nil)))))), ?_⟩
    refine ⟨_, rfl, 1, rfl, 1, rfl, -1, rfl, x, rfl, by omega, ?_⟩
    unfold paM at fin
    by_cases e1 : x = "-"
    · rw [if_pos e1] at fin
      subst e1
      refine ⟨_, rfl, rfl, ?_⟩
      rw [show decide (V.str "-" = V.str "-") = true from decide_eq_true rfl]
      exact ⟨_, rfl, iteT ⟨by show 1 ≤ sizeLine; decide, fun L hL => fin L _ (same_mk hL) ⟨.non, upd_same, rfl⟩⟩⟩
    rw [if_neg e1] at fin
    refine ⟨_, rfl, rfl, ?_⟩
    rw [eq_str e1]
    refine ⟨_, rfl, iteF ⟨_, rfl, x, "\"", "\"", rfl, by omega, ?_⟩⟩
    by_cases e2 : btw x "\"" "\"" = true
    · rw [if_pos e2] at fin
      rw [e2]
      exact ⟨_, rfl, iteT ⟨_, rfl, by show 1 ≤ sizeLine; decide, fun L hL => fin L _ (same_mk hL) ⟨_, upd_same, rfl⟩⟩⟩
    rw [if_neg e2] at fin
    rw [Bool.not_eq_true] at e2
    rw [e2]
    refine ⟨_, rfl, iteF ⟨_, rfl, x, "(", ")", rfl, by omega, ?_⟩⟩
    by_cases e3 : btw x "(" ")" = true
    · rw [if_pos e3] at fin
      rw [e3]
      refine ⟨_, rfl, iteT ⟨_, rfl, rfl, ?_⟩⟩
      have hc : cutS x (some 1) (some (-1)) = insT x := rfl
      rw [hc]
      have hrow : rowT x = if insT x = "" then [] else Txt.split (insT x) " " := rfl
      by_cases e : insT x = ""
      · rw [if_pos e] at hrow
        rw [hrow] at fin
        rw [show decide (V.str (insT x) = V.str "") = true from decide_eq_true (by rw [e])]
        refine ⟨_, rfl, iteF ?_⟩
        refine ⟨by show 0 ≤ sizeLine; decide, fun p hp => ⟨by show 1 ≤ sizeLine; decide, fun L hL => ?_⟩⟩
        have s1 := same_mk (o := .tup []) hp
        have s2 := same_mk (o := .lst [.ref p]) hL
        exact fin L _ (s1.trans s2) ⟨_, upd_same, p, rfl, s2 _ _ upd_same⟩
      · rw [if_neg e] at hrow
        rw [hrow] at fin
        rw [eq_str e]
        have il := ins_len x
        refine ⟨_, rfl, iteT ⟨_, rfl, rfl, insT x, " ", rfl, rfl, by decide +kernel, by omega, fun p hp => ?_⟩⟩
        have s1 := same_mk (o := .lst ((Txt.split (insT x) " ").map V.str)) hp
        have g1 := upd_same (H := H) (a := p) (o := .lst ((Txt.split (insT x) " ").map V.str))
        refine ⟨p, _, rfl, .inl ⟨SqL.of g1, fun t ht => ⟨by show 1 ≤ sizeLine; decide, fun L hL => ?_⟩⟩⟩
        have s2 := same_mk (o := .tup ((Txt.split (insT x) " ").map V.str)) ht
        have s3 := same_mk (o := .lst [.ref t]) hL
        exact fin L _ ((s1.trans s2).trans s3) ⟨_, upd_same, t, rfl, s3 _ _ upd_same⟩
    · rw [if_neg e3] at fin
      rw [Bool.not_eq_true] at e3
      rw [e3]
      exact ⟨_, rfl, iteF ⟨by show 0 ≤ sizeLine; decide, fun L hL => fin L _ (same_mk hL) upd_same⟩⟩
theorem scLkIn : FnScope ["head", "word", "space", "where"] ["head"] (defScope sLkIn) := ⟨rfl, rfl, rfl, by decide +kernel, rfl, by decide +kernel, by decide +kernel⟩
theorem ok_lkinX {f fA : Addr} {fd fdA : FuncData} (F : Fun K "look_in" "look_in" sLkIn f fd) (T0 : TPk mg) (aAsLook : At K mg "as_look" fA fdA ["thing"]) (GAsLook : FnOk P w K mg base CX0 5 fA fdA ["thing"] spAsLook2) : FnOk P w K mg base CX0 6 f fd ["head"] spLkInX := by
  refine F.ok scLkIn (fun vs H Q E h => ?_) (fun cdv A outer s H vs Q E hr h => ?_)
  · obtain ⟨k, rfl, _⟩ := h
    rfl
  · obtain ⟨h, rfl, lb, fin⟩ := h
    have T := T0.b
    obtain ⟨_, mSTROKE⟩ := T0.STROKE
    obtain ⟨_, mROOT⟩ := T0.ROOT
    have sz : 1000000 ≤ sizeLine := by decide
    have ll := lb.ln
    refine ⟨_, pss_cons (ps_if (pt_cmpR op_eq (pv 0) pe_str (nomark _)) (pss_one (ps_ret (pe_tup (pa_cons pe_str pa_nil)))) (pss_nil))
            (pss_cons (ps_asg (pe_bm PySem.F.plainAttrs_str PySem.F.slot_str_partition PySem.F.type_str_partition mt_partition (pv 0) (pa_cons pe_str pa_nil)) (pg_tup rfl (pgs_cons (pg_name (i := 1) scLkIn.nd rfl (Or.inl rfl)) (pgs_cons (pg_name (i := 2) scLkIn.nd rfl (Or.inl rfl)) (pgs_cons (pg_name (i := 3) scLkIn.nd rfl (Or.inl rfl)) pgs_nil)))))
            (pss_cons (ps_if (pt_cmpR op_eq (pv 3) (pe_glob (v := .str "") rfl mROOT ⟨_, rfl⟩) (nomark _)) (pss_one (ps_ret pe_non)) (pss_nil))
            (pss_one (ps_ret (pe_call GAsLook (hr.mono (by decide)) rfl aAsLook.m aAsLook.k aAsLook.b .nil pass0 (pa_cons (pe_tup (pa_cons (pv 1) (pa_cons (pe_ifExp (pt_cmpR op_eq (pv 3) (pe_glob (v := .str "/") rfl mSTROKE ⟨_, rfl⟩) (nomark _)) (pe_glob (v := .str "") rfl mROOT ⟨_, rfl⟩) (pv 3)) pa_nil))) pa_nil)))))), ?_⟩
    by_cases e : h = "tool"
    · rw [lookM_of (k := .tl) ⟨trivial, trivial⟩ (by rw [e]; rfl)] at fin
      subst e
      refine ⟨_, rfl, rfl, ?_⟩
      rw [eq_strT]
      exact ⟨_, rfl, iteT ⟨by show 1 ≤ sizeLine; decide, fun u hu => fin _ _ (same_mk hu) ⟨u, rfl, upd_same⟩⟩⟩
    · obtain ⟨wd, g, r, hp, shw, shr, sr, nil, some'⟩ := head_or lb.sh lb.sl e
      refine ⟨_, rfl, rfl, ?_⟩
      rw [eq_str e]
      refine ⟨_, rfl, iteF ⟨_, rfl, rfl, h, " ", rfl, rfl, by decide +kernel, by omega, fun p hp0 => ?_⟩⟩
      rw [hp]
      have s1 := same_mk (o := .tup [.str wd, .str g, .str r]) hp0
      have g1 := upd_same (H := H) (a := p) (o := .tup [.str wd, .str g, .str r])
      generalize upd H p (.tup [.str wd, .str g, .str r]) = H1 at s1 g1 ⊢
      refine ⟨p, _, rfl, SqT.of g1, rfl, _, _, rfl, _, _, rfl, _, _, rfl, rfl, ?_⟩
      refine ⟨_, rfl, rfl, ?_⟩
      by_cases e0 : r = ""
      · rw [show decide (V.str r = V.str "") = true from decide_eq_true (by rw [e0])]
        rw [nil e0] at fin
        exact ⟨_, rfl, iteT (fin _ _ s1 rfl)⟩
      rw [eq_str e0]
      refine ⟨_, rfl, iteF ⟨_, rfl, _, rfl, rfl, ?_⟩⟩
      obtain ⟨_, _, alt⟩ := some' e0
      have main : ∀ u H2, Same H1 H2 → H2 u = some (.tup [.str wd, .str (cutR r)]) → spAsLook2 [.ref u] H2 Q E := fun u H2 s2 hu => by
        rcases alt with ⟨k, kt, gk, ew, er, ec, el⟩ | ⟨cn, el⟩
        · rw [el] at fin
          rw [ew, ec, ← lkV_pt kt] at hu
          exact .inl ⟨.ref u, k, rfl, ⟨u, rfl, .inl hu⟩, gk.1, fun t H3 s3 ht => fin _ H3 ((s1.trans s2).trans s3) ⟨t, rfl, ht⟩⟩
        · rw [el] at fin
          exact .inr ⟨.ref u, rfl, .row ⟨u, rfl, .inl hu⟩ (.two cn), fun H3 s3 => fin _ H3 ((s1.trans s2).trans s3) rfl⟩
      by_cases e4 : r = "/"
      · rw [show cutR r = "" from if_pos e4] at main
        rw [show decide (V.str r = V.str "/") = true from decide_eq_true (by rw [e4])]
        refine ⟨_, rfl, iteT ⟨by show 2 ≤ sizeLine; decide, fun u hu => main u _ (same_mk hu) upd_same⟩⟩
      · rw [show cutR r = r from if_neg e4] at main
        rw [eq_str e4]
        refine ⟨_, rfl, iteF ⟨_, rfl, by show 2 ≤ sizeLine; decide, fun u hu => main u _ (same_mk hu) upd_same⟩⟩
end
end K3

set_option maxHeartbeats 3900000
namespace K3
open PySem PySem.Spec PyProof.Rows L2 TL
open C8 (pss_cut tCut pe_gc)
open CB XW LE LR
theorem asc_no {zs : List Str} (all : ∀ z ∈ zs, IsNm (NmR z)) (no : ¬ RowOk zs) : ¬ Asc (zs.map NmR) := fun a => no ⟨all, a⟩
theorem ans_alt {H : Hp} {va : V} {k : Lk} {x : Str} {pa : PA} (gk : LkG k) (lb : Lb x) (e : paM x = some pa) (h : PaAt H va pa) :
    (∃ a, AnAt H va a ∧ AnG k a ∧ ansM k x = some a) ∨ (AnNo H va k ∧ ansM k x = none) := by
  cases pa with
  | no =>
    obtain rfl : va = .non := h
    rw [paM_no_ex e, ansM_dash k]
    by_cases c : k = .tl ∨ k = .ls []
    · rw [if_pos c]
      rcases c with rfl | rfl
      · exact .inr ⟨.tlN rfl, rfl⟩
      · exact .inr ⟨.lsN rfl, rfl⟩
    · rw [if_neg c]
      refine .inl ⟨.no, rfl, ⟨?_, trivial, trivial⟩, rfl⟩
      cases k with
      | rd p => trivial
      | ls p => exact fun z => c (.inr (by rw [z]))
      | se n => trivial
      | tl => exact absurd (.inl rfl) c
  | tx z =>
    obtain rfl : va = .str z := h
    have ex := paM_tx_ex e
    have ez : insT x = z := by rw [ex]; exact cut_tx z
    have mem : ∀ c ∈ tl z, c ∈ tl x := by rw [← ez]; exact ins_mem
    have n10 : 10 ∉ tl z := fun m => lb.nn (mem _ m)
    have zl : z.length ≤ 1000 := by
      have := ins_len x
      have := lb.ln
      rw [ez] at *
      omega
    have ok := lb.okz mem
    rw [ex, ansM_tx n10 zl ok]
    cases k with
    | ls p => exact .inr ⟨.lsB (.row (.str z)) (by intro z; cases z), rfl⟩
    | rd p => exact .inl ⟨.tx z, rfl, ⟨trivial, ⟨n10, zl⟩, ok⟩, rfl⟩
    | se n => exact .inl ⟨.tx z, rfl, ⟨trivial, ⟨n10, zl⟩, ok⟩, rfl⟩
    | tl => exact .inl ⟨.tx z, rfl, ⟨trivial, ⟨n10, zl⟩, ok⟩, rfl⟩
  | row zs =>
    obtain ⟨a, rfl, ha⟩ := h
    have nt : NoText H (.ref a) := .tup ha
    have nn : (V.ref a) ≠ .non := by intro z; cases z
    cases k with
    | rd p => exact .inr ⟨.rd nt nn, ansM_rowN e rfl⟩
    | se n => exact .inr ⟨.se nt nn, ansM_rowN e rfl⟩
    | tl => exact .inr ⟨.tl nt nn, ansM_rowN e rfl⟩
    | ls p =>
      obtain ⟨ex, er, _⟩ := paM_row_ex e
      obtain ⟨rl, rz⟩ := row_len lb.ln lb.bl
      rw [← er] at rl rz
      have hr : RowAt H (.ref a) (zs.map V.str) := ⟨a, rfl, .inl ha⟩
      by_cases c : RowOk zs ∧ (zs ≠ [] ∨ p = [])
      · obtain ⟨l, e1, e2, g, e3⟩ := ansM_rowY e (by omega) c.1 c.2
        refine .inl ⟨.es l, ⟨a, rfl, ?_⟩, g, e3⟩
        rw [ents_V, ← e1]
        exact ha
      · have no : ¬ RowOk zs ∨ (zs = [] ∧ p ≠ []) := by
          by_cases c1 : RowOk zs
          · right
            constructor
            · by_cases z : zs = []
              · exact z
              · exact absurd ⟨c1, .inl z⟩ c
            · exact fun z => c ⟨c1, .inr z⟩
          · exact .inl c1
        refine .inr ⟨?_, ansM_rowB e no⟩
        by_cases z0 : zs = []
        · rcases no with no | ⟨_, np⟩
          · exfalso
            rw [z0] at no
            exact no ⟨(fun z hz => by cases hz), List.Pairwise.nil⟩
          · rw [z0] at hr
            exact .lsE hr np
        · have no : ¬ RowOk zs := no.resolve_right fun z => z0 z.1
          refine .lsB ?_ nn
          by_cases all : ∀ z ∈ zs, IsNm (NmR z)
          · obtain ⟨l, e1, e2, e3⟩ := ents_ex all
            have ll : l.length = zs.length := by rw [e1]; exact (List.length_map ..).symm
            refine .asc (l := l) (by rw [ents_V, ← e1]; exact hr) e2 (by omega) ?_
            rw [e3]
            exact asc_no all no
          · refine .bad (zs := zs.map fun z => (V.str z, decide (IsNm (NmR z)))) (by rw [List.map_map]; exact hr) (fun y hy => ?_) ?_ (by rw [List.length_map]; omega)
            · obtain ⟨z, hz, rfl⟩ := List.mem_map.mp hy
              have := rz z hz
              have := len_rms z
              exact .inl ⟨z, rfl, Nat.le_trans (rz z hz) (by decide), Nat.le_trans (show (NmR z).length ≤ 963 by omega) (by decide), rfl⟩
            · rw [List.all_map, ← Bool.not_eq_true]
              exact fun q => all fun z hz => of_decide_eq_true (List.all_eq_true.mp q z hz)
section
variable {P : Program} {w : World} {K : PySem.W.Frag} {mg : Str → Option Value} {base : Heap} {CR : Addr}
theorem scSgIn : FnScope ["line", "head", "sign", "shown", "answers"] ["line"] (defScope sSgIn) := ⟨rfl, rfl, rfl, by decide +kernel, rfl, by decide +kernel, by decide +kernel⟩
theorem ok_sginX {f fA fL fS : Addr} {fd fdA fdL fdS : FuncData} (F : Fun K "sight_in" "sight_in" sSgIn f fd) (T : TB mg) (X0 : TX mg) (aAnsIn : At K mg "answers_in" fA fdA ["shown"]) (GAnsIn : FnOk P w K mg base CX0 2 fA fdA ["shown"] spAnsInX) (aLkIn : At K mg "look_in" fL fdL ["head"]) (GLkIn : FnOk P w K mg base CX0 6 fL fdL ["head"] spLkInX)
    (aAsSight : At K mg "as_sight" fS fdS ["thing"]) (GAsSight : FnOk P w K mg base CX0 6 fS fdS ["thing"] spAsSight2) : FnOk P w K mg base CX0 7 f fd ["line"] spSgInX := by
  refine F.ok scSgIn (fun vs H Q E h => ?_) (fun cdv A outer s H vs Q E hr h => ?_)
  · obtain ⟨s, rfl, _⟩ := h
    rfl
  · obtain ⟨l, rfl, lb, fin⟩ := h
    obtain ⟨_, mSIGN⟩ := X0.SIGN
    have sz : 1000000 ≤ sizeLine := by decide
    have ll := lb.ln
    refine ⟨_, pss_cons (ps_asg (pe_bm PySem.F.plainAttrs_str PySem.F.slot_str_partition PySem.F.type_str_partition mt_partition (pv 0) (pa_cons (pe_glob (v := .str " : ") rfl mSIGN ⟨_, rfl⟩) pa_nil)) (pg_tup rfl (pgs_cons (pg_name (i := 1) scSgIn.nd rfl (Or.inl rfl)) (pgs_cons (pg_name (i := 2) scSgIn.nd rfl (Or.inl rfl)) (pgs_cons (pg_name (i := 3) scSgIn.nd rfl (Or.inl rfl)) pgs_nil)))))
            (pss_cons (ps_set (i := 4) scSgIn.nd rfl (Or.inl rfl) (pe_call GAnsIn (hr.mono (by decide)) rfl aAnsIn.m aAnsIn.k aAnsIn.b .nil pass0 (pa_cons (pv 3) pa_nil)))
            (pss_one (ps_ret (pe_ifExp (pt_cmpR op_gt (pe_callB call_len_seq (by rfl) T.len PySem.boot_len (pa_cons (pv 4) pa_nil)) pe_int (nomark _)) (pe_call GAsSight (hr.mono (by decide)) rfl aAsSight.m aAsSight.k aAsSight.b .nil pass0 (pa_cons (pe_tup (pa_cons (pe_call GLkIn (hr.mono (by decide)) rfl aLkIn.m aLkIn.k aLkIn.b .nil pass0 (pa_cons (pv 1) pa_nil)) (pa_cons (pe_ix ix_list (pv 4) pe_int (fun _ _ => rfl)) pa_nil))) pa_nil)) pe_non)))), ?_⟩
    obtain ⟨h, g, x, hp, lbh, lbx, gx⟩ : ∃ h g x, Txt.partition l " : " = (h, g, x) ∧ Lb h ∧ Lb x ∧ (g = "" → x = "") := by
      rcases part_or l " : " sp_tl.2.1 with ⟨a, b, e, ex⟩ | e
      · obtain ⟨g1, g2⟩ := lb.part ex
        exact ⟨a, _, b, e, g1, g2, fun z => absurd z (by decide +kernel)⟩
      · exact ⟨l, _, _, e, lb, ⟨by decide +kernel, Nat.zero_le _, Nat.zero_le _, Nat.zero_le _, fun c hc => by cases hc⟩, fun _ => rfl⟩
    refine ⟨_, rfl, rfl, l, " : ", rfl, rfl, by decide +kernel, by omega, fun p hp0 => ?_⟩
    rw [hp]
    have s1 := same_mk (o := .tup [.str h, .str g, .str x]) hp0
    have g1 := upd_same (H := H) (a := p) (o := .tup [.str h, .str g, .str x])
    generalize upd H p (.tup [.str h, .str g, .str x]) = H1 at s1 g1 ⊢
    refine ⟨p, _, rfl, SqT.of g1, rfl, _, _, rfl, _, _, rfl, _, _, rfl, rfl, ?_⟩
    refine ⟨_, rfl, x, rfl, Nat.le_trans lbx.ln (by decide), fun L H2 s2 hL => ?_⟩
    cases epa : paM x with
    | none =>
      rw [epa] at hL
      have no : telM l = none := by
        refine telM_no hp ?_
        cases ek : lookM h with
        | none => exact .inr (.inl rfl)
        | some k => exact .inr (.inr ⟨k, rfl, ansM_none epa⟩)
      rw [no] at fin
      exact ⟨_, rfl, L, _, rfl, .inl (SqL.of hL), _, _, rfl, rfl, _, rfl, iteF (fin _ H2 (s1.trans s2) rfl)⟩
    | some pa =>
      rw [epa] at hL
      obtain ⟨va, hL, hva⟩ := hL
      have g0 : g ≠ "" := fun z => by
        rw [gx z, paM_nil] at epa
        cases epa
      refine ⟨_, rfl, L, _, rfl, .inl (SqL.of hL), _, _, rfl, rfl, _, rfl, iteT ?_⟩
      refine ⟨_, rfl, h, rfl, lbh, fun v1 H3 s3 hv1 => ?_⟩
      refine ⟨_, rfl, L, _, 0, _, rfl, rfl, SqL.of (s3 _ _ hL), atI_nat (j := 0) rfl, by show 2 ≤ sizeLine; decide, fun t ht => ?_⟩
      have s4 := same_mk (o := .tup [v1, va]) ht
      have hrow : RowAt (upd H3 t (.tup [v1, va])) (.ref t) [v1, va] := ⟨t, rfl, .inl upd_same⟩
      have s14 := ((s1.trans s2).trans s3).trans s4
      cases ek : lookM h with
      | none =>
        rw [ek] at hv1
        obtain rfl : v1 = .non := hv1
        rw [telM_no hp (.inr (.inl ek))] at fin
        exact .inr ⟨.ref t, rfl, .look hrow (.no .non), fun H5 s5 => fin _ H5 (s14.trans s5) rfl⟩
      | some k =>
        rw [ek] at hv1
        obtain ⟨u, rfl, hu⟩ := hv1
        have gk := (lookM_some ek).1
        have hu4 : RowAt (upd H3 t (.tup [.ref u, va])) (.ref u) (lkV k) := ⟨u, rfl, .inl (s4 _ _ hu)⟩
        rcases ans_alt gk lbx epa ((hva.up s3).up s4) with ⟨a, ha, ga, ea⟩ | ⟨no, ea⟩
        · rw [telM_of hp g0 ek ea] at fin
          exact .inl ⟨.ref t, (k, a), rfl, ⟨.ref u, va, hrow, hu4, ha.in⟩, ⟨gk.1, ga.1⟩, fun v' H5 s5 h5 => fin v' H5 (s14.trans s5) h5⟩
        · rw [telM_no hp (.inr (.inr ⟨k, ek, ea⟩))] at fin
          exact .inr ⟨.ref t, rfl, .ans hrow hu4 gk.1 no, fun H5 s5 => fin _ H5 (s14.trans s5) rfl⟩
theorem scOuIn : FnScope ["line", "head", "sign", "shown", "answers"] ["line"] (defScope sOuIn) := ⟨rfl, rfl, rfl, by decide +kernel, rfl, by decide +kernel, by decide +kernel⟩
theorem ok_ouinX {f fA : Addr} {fd fdA : FuncData} (F : Fun K "outcome_in" "outcome_in" sOuIn f fd) (T : TB mg) (X0 : TX mg) (aAnsIn : At K mg "answers_in" fA fdA ["shown"]) (GAnsIn : FnOk P w K mg base CX0 2 fA fdA ["shown"] spAnsInX) : FnOk P w K mg base CX0 3 f fd ["line"] spOuInX := by
  refine F.ok scOuIn (fun vs H Q E h => ?_) (fun cdv A outer s H vs Q E hr h => ?_)
  · obtain ⟨y, rfl, _⟩ := h
    rfl
  · obtain ⟨l, rfl, lb, fin⟩ := h
    obtain ⟨_, mSIGN⟩ := X0.SIGN
    have sz : 1000000 ≤ sizeLine := by decide
    have ll := lb.ln
    refine ⟨_, pss_cons (ps_asg (pe_bm PySem.F.plainAttrs_str PySem.F.slot_str_partition PySem.F.type_str_partition mt_partition (pv 0) (pa_cons (pe_glob (v := .str " : ") rfl mSIGN ⟨_, rfl⟩) pa_nil)) (pg_tup rfl (pgs_cons (pg_name (i := 1) scOuIn.nd rfl (Or.inl rfl)) (pgs_cons (pg_name (i := 2) scOuIn.nd rfl (Or.inl rfl)) (pgs_cons (pg_name (i := 3) scOuIn.nd rfl (Or.inl rfl)) pgs_nil)))))
            (pss_cons (ps_set (i := 4) scOuIn.nd rfl (Or.inl rfl) (pe_call GAnsIn (hr.mono (by decide)) rfl aAnsIn.m aAnsIn.k aAnsIn.b .nil pass0 (pa_cons (pv 3) pa_nil)))
            (pss_cons (ps_if (PW.pt (pw_or (pt_cmpR op_ne (pv 1) pe_str (nomark _)) (pw_or (pt_cmpR op_eq (pe_callB call_len_seq (by rfl) T.len PySem.boot_len (pa_cons (pv 4) pa_nil)) pe_int (nomark _)) (pw_or1 (pt_not (pt_val (pe_callB call_isi (by rfl) T.isinstance (by decide +kernel) (pa_cons (pe_ix ix_list (pv 4) pe_int (fun _ _ => rfl)) (pa_cons (pe_bltn (v := .ty "str") (by rfl) T.str (by decide +kernel) rfl) pa_nil))))))))) (pss_one (ps_ret pe_non)) (pss_nil))
            (pss_one (ps_ret (pe_ix ix_list (pv 4) pe_int (fun _ _ => rfl)))))), ?_⟩
    obtain ⟨h, g, x, hp, lbx, gx, ex⟩ : ∃ h g x, Txt.partition l " : " = (h, g, x) ∧ Lb x ∧ (g = "" → x = "") ∧ (g ≠ "" → l = h ++ " : " ++ x) := by
      rcases part_or l " : " sp_tl.2.1 with ⟨a, b, e, ex⟩ | e
      · obtain ⟨g1, g2⟩ := lb.part ex
        exact ⟨a, _, b, e, g2, fun z => absurd z (by decide +kernel), fun _ => ex⟩
      · exact ⟨l, _, _, e, ⟨by decide +kernel, Nat.zero_le _, Nat.zero_le _, Nat.zero_le _, fun c hc => by cases hc⟩, fun _ => rfl, fun z => absurd rfl z⟩
    have no : (h ≠ "end" ∨ ∀ z, paM x ≠ some (.tx z)) → outM l = none := fun n => by
      cases eo : outM l with
      | none => rfl
      | some y =>
        exfalso
        have el := outM_some eo
        rw [el, part_end] at hp
        injection hp with h1 h2
        injection h2 with _ h3
        rcases n with n | n
        · exact n h1.symm
        · exact n y (by rw [← h3]; exact paM_tx y)
    refine ⟨_, rfl, rfl, l, " : ", rfl, rfl, by decide +kernel, by omega, fun p hp0 => ?_⟩
    rw [hp]
    have s1 := same_mk (o := .tup [.str h, .str g, .str x]) hp0
    have g1 := upd_same (H := H) (a := p) (o := .tup [.str h, .str g, .str x])
    generalize upd H p (.tup [.str h, .str g, .str x]) = H1 at s1 g1 ⊢
    refine ⟨p, _, rfl, SqT.of g1, rfl, _, _, rfl, _, _, rfl, _, _, rfl, rfl, ?_⟩
    refine ⟨_, rfl, x, rfl, Nat.le_trans lbx.ln (by decide), fun L H2 s2 hL => ?_⟩
    have s12 := s1.trans s2
    refine ⟨_, rfl, rfl, ?_⟩
    by_cases eh : h = "end"
    · subst eh
      rw [eq_strT]
      cases epa : paM x with
      | none =>
        rw [epa] at hL
        rw [no (.inr fun z => by rw [epa]; intro q; cases q)] at fin
        exact ⟨_, rfl, iteF ⟨_, rfl, L, _, rfl, .inl (SqL.of hL), rfl, _, rfl, iteT (fin H2 s12)⟩⟩
      | some pa =>
        rw [epa] at hL
        obtain ⟨va, hL, hva⟩ := hL
        have g0 : g ≠ "" := fun z => by
          rw [gx z, paM_nil] at epa
          cases epa
        refine ⟨_, rfl, iteF ⟨_, rfl, L, _, rfl, .inl (SqL.of hL), rfl, _, rfl, iteF ?_⟩⟩
        cases pa with
        | no =>
          obtain rfl : va = .non := hva
          rw [no (.inr fun z => by rw [epa]; intro q; cases q)] at fin
          exact ⟨_, rfl, L, _, 0, _, rfl, rfl, SqL.of hL, atI_nat (j := 0) rfl, _, _, .type "NoneType", .type "str", false, rfl, .ty "str", .base .non, kit_ty (by decide +kernel), _, rfl, iteT (fin H2 s12)⟩
        | row zs =>
          obtain ⟨a, rfl, ha⟩ := hva
          rw [no (.inr fun z => by rw [epa]; intro q; cases q)] at fin
          exact ⟨_, rfl, L, _, 0, _, rfl, rfl, SqL.of hL, atI_nat (j := 0) rfl, _, _, .type "tuple", .type "str", false, rfl, .ty "str", .base (.tup ha), kit_ty (by decide +kernel), _, rfl, iteT (fin H2 s12)⟩
        | tx z =>
          obtain rfl : va = .str z := hva
          have ee : l = endT z := by rw [ex g0, paM_tx_ex epa]; rfl
          have eo : outM l = some z := by
            rw [ee]
            refine outM_of ?_
            rw [← ee]
            omega
          rw [eo] at fin
          refine ⟨_, rfl, L, _, 0, _, rfl, rfl, SqL.of hL, atI_nat (j := 0) rfl, _, _, .type "str", .type "str", true, rfl, .ty "str", .base (.str _), kit_ty (by decide +kernel), _, rfl, iteF ?_⟩
          exact ⟨_, rfl, L, _, 0, _, rfl, rfl, SqL.of hL, atI_nat (j := 0) rfl, fin H2 s12⟩
    · rw [eq_str eh]
      rw [no (.inl eh)] at fin
      exact ⟨_, rfl, iteT (fin H2 s12)⟩
end
end K3

set_option maxHeartbeats 3900000
namespace EE
open PySem PySem.Spec PyProof.Rows L2
open CB
def rInT (K : PySem.W.Frag) : V → V → Hp → VK → Prop := fun x y H Q => ∃ d ds, Dp K H x d ∧ Dp K H y (.tuple ds) ∧ SeqAt.shaped d = true ∧ SeqAt.shaped (.tuple ds) = true ∧ Q (.bl (ds.any fun z => PyData.eqv z d)) H
theorem op_inT {X : Cx} (hu : X.A.units + 65 < cLine) : OpR X (compareOp .In) (rInT X.K) := by
  intro pins s σ H x y v u Q I rx ry h
  obtain ⟨d, ds, hd, he, sd, se, q⟩ := h
  obtain ⟨as, r1⟩ := Dp.reads I d x v hd rx
  obtain ⟨bs, r2⟩ := Dp.reads I (.tuple ds) y u he ry
  have c2 : PyData.canLayAll0 ds = true := SeqAt.canLay_of_shaped se
  exact SeqAt.in_tuple_reads r2 r1 c2 (SeqAt.canLay_of_shaped sd) (room_in_shaped sd hu) ⟨.bl _, H, I, rfl, q⟩
end EE

set_option maxHeartbeats 3900000
namespace K3
open PySem PySem.Spec PyProof.Rows L2 TL
open C8 (pss_cut tCut pe_gc)
open CB XW LE LR
abbrev sLIsNm : Stmt := top 80
abbrev sLLkOf : Stmt := top 81
abbrev spLIsNm : Sp := spS1 Sh fun z => .bl (decide (IsNm z))
def spLLkOf : Sp := fun vs H Q _ => ∃ h, vs = [.str h] ∧ Lb h ∧ ∀ v H', Same H H' → LkR H' v (lookM h) → Q v H'
section
variable {P : Program} {w : World} {K : PySem.W.Frag} {mg : Str → Option Value} {base : Heap} {CR : Addr}
theorem scLIsNm : FnScope ["_law_thing", "_law_one"] ["_law_thing"] (defScope sLIsNm) := ⟨rfl, rfl, rfl, by decide +kernel, rfl, by decide +kernel, by decide +kernel⟩
theorem ok_lisnm {f : Addr} {fd : FuncData} (F : Fun K "_law_is_name" "_law_is_name" sLIsNm f fd) (T : TB mg) : FnOk P w K mg base CX0 1 f fd ["_law_thing"] spLIsNm := by
  refine F.ok scLIsNm (fun vs H Q E h => ?_) (fun cdv A outer s H vs Q E hr h => ?_)
  · obtain ⟨z, rfl, _⟩ := h
    rfl
  · obtain ⟨z, rfl, hz, k⟩ := h
    refine ⟨_, pss_one (ps_ret (pe_and (pe_chain op_lt op_lt pe_int (pe_callB call_len_str (by rfl) T.len PySem.boot_len (pa_cons (pv 0) pa_nil)) pe_int) (pe_one (pe_callB (cr_all rfl) (by rfl) T.all boot_all (pa_cons (pe_lc (own := [("_law_one", 1)]) (g := gName 1) (tt := tYes) rfl scLIsNm.nd (pi_str (pv 0)) (blkOk_by (own := [("_law_one", 1)]) (N := ["_law_thing", "_law_one"]) (sc := defScope sLIsNm) (by decide +kernel)) (fun _ _ _ _ _ => (pg_name (i := 1) scLIsNm.nd rfl (Or.inl rfl))) (fun _ _ _ _ _ => pts_nil) (fun _ _ _ _ _ => (by exact (pe_cmpR op_in_sign (pv 1) pe_str (by rfl))))) pa_nil))))), ?_⟩
    have k : ∀ H', Same H H' → Q (.bl (decide (IsNm z))) H' := k
    rw [isNm_eq] at k
    have hz2 : z.length ≤ 1000 := hz
    refine ⟨_, rfl, _, rfl, hz.line, _, _, rfl, rfl, _, rfl, ?_⟩
    by_cases h1 : 1 ≤ z.length
    · rw [decide_eq_true (show (0 : Int) < (z.length : Int) by omega)]
      rw [decide_eq_true h1, Bool.true_and] at k
      refine iteT ⟨_, _, rfl, rfl, ?_⟩
      refine ⟨decide (((z.length : Nat) : Int) < 9), rfl, ?_⟩
      by_cases h8 : z.length ≤ 8
      · rw [decide_eq_true (show ((z.length : Nat) : Int) < (9 : Int) by omega)]
        rw [decide_eq_true h8, Bool.true_and] at k
        refine iteT ⟨_, rfl, z, rfl, fun D hD => ?_⟩
        refine lc_mapS z (fun c => .bl (decide (c ∈ letters.cps.toList))) (by omega) hD ?_ ?_
        · intro c hc H2 s2 Q1 k1
          exact ⟨_, rfl, c, letters, rfl, rfl, k1 H2 (Same.refl H2)⟩
        · intro H' s' hD'
          exact all_of _ _ hD' (k H' s')
      · rw [decide_eq_false (show ¬ ((z.length : Nat) : Int) < (9 : Int) by omega)]
        rw [decide_eq_false h8, Bool.false_and] at k
        exact iteF (k H (Same.refl H))
    · rw [decide_eq_false (show ¬ (0 : Int) < (z.length : Int) by omega)]
      rw [decide_eq_false h1, Bool.false_and, Bool.false_and] at k
      exact iteF ⟨_, rfl, iteF (k H (Same.refl H))⟩
theorem list_root : ("list /" : Str) = lkT (.ls []) := by decide +kernel
theorem in_rl (x : Str) : inV (.str x) [.str "read", .str "list"] = decide (x = "read" ∨ x = "list") := by
  rw [show ([.str "read", .str "list"] : List V) = (["read", "list"] : List Str).map V.str from rfl, inV_strs, decide_eq_decide]
  simp
theorem scLLkOf : FnScope ["_law_text_here", "_law_word", "_law_blank", "_law_rest", "_law_is_place", "_law_part"] ["_law_text_here"] (defScope sLLkOf) := ⟨rfl, rfl, rfl, by decide +kernel, rfl, by decide +kernel, by decide +kernel⟩
theorem ok_llkof {f fN : Addr} {fd fdN : FuncData} (F : Fun K "_law_look_of" "_law_look_of" sLLkOf f fd) (T : TB mg) (aLIsNm : At K mg "_law_is_name" fN fdN ["_law_thing"]) (GLIsNm : FnOk P w K mg base CX0 1 fN fdN ["_law_thing"] spLIsNm) : FnOk P w K mg base CX0 2 f fd ["_law_text_here"] spLLkOf := by
  refine F.ok scLLkOf (fun vs H Q E h => ?_) (fun cdv A outer s H vs Q E hr h => ?_)
  · obtain ⟨z, rfl, _⟩ := h
    rfl
  · obtain ⟨h, rfl, lb, fin⟩ := h
    have sz : 1000000 ≤ sizeLine := by decide
    have ll := lb.ln
    refine ⟨_, pss_cons (ps_asg (pe_bm PySem.F.plainAttrs_str PySem.F.slot_str_partition PySem.F.type_str_partition mt_partition (pv 0) (pa_cons pe_str pa_nil)) (pg_tup rfl (pgs_cons (pg_name (i := 1) scLLkOf.nd rfl (Or.inl rfl)) (pgs_cons (pg_name (i := 2) scLLkOf.nd rfl (Or.inl rfl)) (pgs_cons (pg_name (i := 3) scLLkOf.nd rfl (Or.inl rfl)) pgs_nil)))))
            (pss_cons (ps_if (PW.pt (pw_or (pt_cmpR op_eq (pv 0) pe_str (nomark _)) (pw_or1 (pt_cmpR op_eq (pv 0) pe_str (nomark _))))) (pss_one (ps_ret (pe_ifExp (pt_cmpR op_eq (pv 0) pe_str (nomark _)) (pe_tup (pa_cons pe_str pa_nil)) (pe_tup (pa_cons pe_str (pa_cons pe_str pa_nil)))))) (pss_nil))
            (pss_cut (ps_set (i := 4) scLLkOf.nd rfl (Or.inl rfl) (pe_and (pe_cmpR op_ne (pv 3) pe_str (nomark _)) (pe_one (pe_callB (cr_all rfl) (by rfl) T.all boot_all (pa_cons (pe_lc (own := [("_law_part", 5)]) (g := gName 5) (tt := tYes) rfl scLLkOf.nd (pi_list (pe_bm PySem.F.plainAttrs_str PySem.F.slot_str_split PySem.F.type_str_split mt_split (pv 3) (pa_cons pe_str pa_nil))) (blkOk_by (own := [("_law_part", 5)]) (N := ["_law_text_here", "_law_word", "_law_blank", "_law_rest", "_law_is_place", "_law_part"]) (sc := defScope sLLkOf) (by decide +kernel)) (fun _ _ _ _ _ => (pg_name (i := 5) scLLkOf.nd rfl (Or.inl rfl))) (fun _ _ _ _ _ => pts_nil) (fun _ _ _ _ _ => (by exact (pe_call GLIsNm (hr.mono (by decide)) rfl aLIsNm.m aLIsNm.k aLIsNm.b .nil pass0 (pa_cons (pv 5) pa_nil))))) pa_nil)))))
            (pss_cons (ps_if (PW.pt (pw_or (PW.pt (pw_and (pt_cmpR op_in_seq (pv 1) (pe_tup (pa_cons pe_str (pa_cons pe_str pa_nil))) (by rfl)) (pw_and1 (pt_val (pv 4))))) (pw_or1 (PW.pt (pw_and (pt_cmpR op_eq (pv 1) pe_str (nomark _)) (pw_and1 (pt_val (pe_call GLIsNm (hr.mono (by decide)) rfl aLIsNm.m aLIsNm.k aLIsNm.b .nil pass0 (pa_cons (pv 3) pa_nil))))))))) (pss_one (ps_ret (pe_tup (pa_cons (pv 1) (pa_cons (pv 3) pa_nil))))) (pss_nil))
            (pss_one (ps_ret pe_non))))), ?_⟩
    obtain ⟨wd, g, r, hp⟩ : ∃ wd g r, Txt.partition h " " = (wd, g, r) := ⟨_, _, _, rfl⟩
    refine ⟨_, rfl, rfl, h, " ", rfl, rfl, by decide +kernel, by omega, fun p hp0 => ?_⟩
    rw [hp]
    have s1 := same_mk (o := .tup [.str wd, .str g, .str r]) hp0
    have g1 := upd_same (H := H) (a := p) (o := .tup [.str wd, .str g, .str r])
    generalize upd H p (.tup [.str wd, .str g, .str r]) = H1 at s1 g1 ⊢
    refine ⟨p, _, rfl, SqT.of g1, rfl, _, _, rfl, _, _, rfl, _, _, rfl, rfl, ?_⟩
    by_cases e1 : h = "tool"
    · rw [lookM_of (k := .tl) ⟨trivial, trivial⟩ (by rw [e1]; rfl)] at fin
      subst e1
      refine ⟨_, rfl, rfl, ?_⟩
      rw [eq_strT]
      refine ⟨_, rfl, iteT ⟨_, rfl, rfl, ?_⟩⟩
      rw [eq_strT]
      exact ⟨_, rfl, iteT ⟨by show 1 ≤ sizeLine; decide, fun u hu => fin _ _ (s1.trans (same_mk hu)) ⟨u, rfl, upd_same⟩⟩⟩
    by_cases e2 : h = "list /"
    · rw [lookM_of (k := .ls []) ⟨⟨by simp [Nms], by decide⟩, Nat.zero_le _⟩ (e2.trans list_root)] at fin
      subst e2
      refine ⟨_, rfl, rfl, ?_⟩
      rw [eq_str e1]
      refine ⟨_, rfl, iteF ⟨_, rfl, rfl, ?_⟩⟩
      rw [eq_strT]
      refine ⟨_, rfl, iteT ⟨_, rfl, rfl, ?_⟩⟩
      rw [eq_str e1]
      exact ⟨_, rfl, iteF ⟨by show 2 ≤ sizeLine; decide, fun u hu => fin _ _ (s1.trans (same_mk hu)) ⟨u, rfl, upd_same⟩⟩⟩
    refine ⟨_, rfl, rfl, ?_⟩
    rw [eq_str e1]
    refine ⟨_, rfl, iteF ⟨_, rfl, rfl, ?_⟩⟩
    rw [eq_str e2]
    refine ⟨_, rfl, iteF ?_⟩
    obtain ⟨wd', g', r', hp', shw, shr, sr, nil, some'⟩ := head_or lb.sh lb.sl e1
    rw [hp] at hp'
    cases hp'
    obtain ⟨ys, ey, y0, yj, yl, hy⟩ := parted "/" 47 tl_sl sl_cps.1 r
    have eqs : ∀ k, LkG k → h = lkT k → k ≠ .tl ∧ wd = wdT k ∧ r = whT k := fun k gk ek => by
      have kt : k ≠ .tl := fun z => e1 (by rw [ek]; exact lk_tool.mpr z)
      rw [ek, part_lk kt] at hp
      injection hp with h1 h2
      injection h2 with _ h3
      exact ⟨kt, h1.symm, h3.symm⟩
    have pathE : ∀ p, p ≠ [] → Nms p → r = js p → (ys.all fun y => decide (IsNm y)) = true := fun p p0 np e => by
      rw [e, split_js np p0] at ey
      rw [← ey]
      exact List.all_eq_true.mpr fun y hy2 => decide_eq_true (np y hy2)
    -- the last test
    have last : ∀ (H2 : Hp) (pl : Bool), Same H1 H2 → (r = "" → pl = false) → (r ≠ "" → pl = ys.all fun y => decide (IsNm y)) → (((wd = "read" ∨ wd = "list") ∧ pl = true) ∨ (wd = "setting" ∧ IsNm r) → ∃ k, lookM h = some k ∧ lkV k = [.str wd, .str r]) ∧ (¬ (((wd = "read" ∨ wd = "list") ∧ pl = true) ∨ (wd = "setting" ∧ IsNm r)) → lookM h = none) := fun H2 pl s2 z0 z1 => by
      constructor
      · intro c
        have r0 : r ≠ "" := by
          rcases c with ⟨_, c⟩ | ⟨_, c⟩
          · intro z
            rw [z0 z] at c
            cases c
          · intro z
            rw [z] at c
            exact nm_lit.1 c
        obtain ⟨eg, eh, _⟩ := some' r0
        rcases c with ⟨c1, c⟩ | ⟨c1, c⟩
        · rw [z1 r0] at c
          have np : Nms ys := fun y hy2 => of_decide_eq_true (List.all_eq_true.mp c y hy2)
          have er : r = js ys := yj
          rcases c1 with c1 | c1
          · refine ⟨.rd ys, lookM_of ⟨⟨y0, np, by omega⟩, by show ys.length ≤ 40; omega⟩ ?_, by rw [c1, er]; rfl⟩
            rw [eh, c1, er]
            rfl
          · refine ⟨.ls ys, lookM_of ⟨⟨np, by omega⟩, by show ys.length ≤ 40; omega⟩ ?_, by rw [c1, er]; rfl⟩
            rw [eh, c1, er]
            show _ = "list" ++ " " ++ (if ys = [] then ("/" : Str) else js ys)
            rw [if_neg y0]
        · refine ⟨.se r, lookM_of ⟨c, trivial⟩ ?_, by rw [c1]; rfl⟩
          rw [eh, c1]
          rfl
      · intro c
        refine lookM_no fun k gk ek => c ?_
        obtain ⟨kt, ew, er⟩ := eqs k gk ek
        have r0 : r ≠ "" := fun z => wh_ne gk.1 kt (er.symm.trans z)
        cases k with
        | rd p => exact .inl ⟨.inl ew, by rw [z1 r0]; exact pathE p gk.1.1 gk.1.2.1 er⟩
        | ls p =>
          have er : r = if p = [] then ("/" : Str) else js p := er
          by_cases p0 : p = []
          · exfalso
            rw [p0] at ek
            exact e2 (ek.trans list_root.symm)
          · rw [if_neg p0] at er
            exact .inl ⟨.inr ew, by rw [z1 r0]; exact pathE p p0 gk.1.1 er⟩
        | se n => exact .inr ⟨ew, by rw [show r = n from er]; exact gk.1⟩
        | tl => exact absurd rfl kt

    refine ⟨fun σ H' => ∃ pl, σ = [some (.str h), some (.str wd), some (.str g), some (.str r), some (.bl pl), none] ∧ Same H1 H' ∧ (r = "" → pl = false) ∧ (r ≠ "" → pl = ys.all fun y => decide (IsNm y)), ?_, ?_⟩
    · refine ⟨_, rfl, rfl, _, rfl, ?_⟩
      by_cases e0 : r = ""
      · rw [show decide (V.str r = V.str "") = true from decide_eq_true (by rw [e0])]
        exact iteF ⟨false, rfl, Same.refl _, fun _ => rfl, fun z => absurd e0 z⟩
      · rw [eq_str e0]
        have shr' : r.length ≤ 1000 := shr
        refine iteT ⟨_, rfl, rfl, r, "/", rfl, rfl, by decide +kernel, by omega, fun l hl => ⟨l, rfl, ⟨_, SqL.of upd_same⟩, fun D hD => ?_⟩⟩
        rw [ey] at hD ⊢
        have s2 : Same H1 (upd H1 l (.lst (ys.map V.str))) := same_mk hl
        refine lc_mapL ys V.str (fun y => .bl (decide (IsNm y))) (by omega) hD (SqL.of upd_same) ?_ ?_
        · intro y hy2 H2 s2 Q1 k1
          exact ⟨_, rfl, y, rfl, Nat.le_trans (hy y hy2).2.1 shr, k1⟩
        · intro H' s' hD'
          dsimp only [tNil]
          refine all_of _ _ hD' ?_
          exact ⟨_, rfl, s2.trans s', fun z => absurd z e0, fun _ => rfl⟩
    rintro _ H2 ⟨pl, rfl, s2, z0, z1⟩
    obtain ⟨yes, no⟩ := last H2 pl s2 z0 z1
    have ret : (∃ k, lookM h = some k ∧ lkV k = [.str wd, .str r]) → ∀ H3, Same H2 H3 → ∀ u, H3 u = none → Q (.ref u) (upd H3 u (.tup [.str wd, .str r])) := fun ⟨k, e, ek⟩ H3 s3 u hu => by
      rw [e] at fin
      exact fin _ _ ((s1.trans s2).trans (s3.trans (same_mk hu))) ⟨u, rfl, by rw [upd_same, ek]⟩
    have bad : lookM h = none → ∀ H3, Same H2 H3 → Q .non H3 := fun e H3 s3 => by
      rw [e] at fin
      exact fin _ _ ((s1.trans s2).trans s3) rfl
    refine ⟨_, rfl, by show 2 ≤ sizeLine; decide, fun tp ht => ⟨tp, _, rfl, .inr (SqT.of upd_same), rfl, rfl, ?_⟩⟩
    have s3 := same_mk (o := .tup [.str "read", .str "list"]) ht
    rw [show (if false = true then !inV (.str wd) [.str "read", .str "list"] else inV (.str wd) [.str "read", .str "list"]) = decide (wd = "read" ∨ wd = "list") from in_rl wd]
    generalize upd H2 tp (.tup [.str "read", .str "list"]) = H3 at s3 ⊢

    refine ⟨_, rfl, ?_⟩
    by_cases c1 : wd = "read" ∨ wd = "list"
    · refine iteY c1 ⟨_, rfl, _, rfl, ?_⟩
      cases pl with
      | true => exact iteT ⟨_, rfl, _, rfl, by show 2 ≤ sizeLine; decide, fun u hu => ret (yes (.inl ⟨c1, rfl⟩)) _ s3 u hu⟩
      | false =>
        refine iteF ?_
        refine ⟨_, rfl, rfl, ?_⟩
        by_cases e3 : wd = "setting"
        · rw [show decide (V.str wd = V.str "setting") = true from decide_eq_true (by rw [e3])]
          refine ⟨_, rfl, iteT ⟨_, rfl, r, rfl, shr, fun H5 s5 => ⟨_, rfl, ?_⟩⟩⟩
          by_cases e4 : IsNm r
          · exact iteY e4 ⟨_, rfl, _, rfl, by show 2 ≤ sizeLine; decide, fun u hu => ret (yes (.inr ⟨e3, e4⟩)) _ (s3.trans s5) u hu⟩
          · exact iteN e4 (bad (no fun c => c.elim (fun c => by cases c.2) fun c => e4 c.2) _ (s3.trans s5))
        · rw [eq_str e3]
          exact ⟨_, rfl, iteF (bad (no fun c => c.elim (fun c => by cases c.2) fun c => e3 c.1) _ s3)⟩
    · refine iteN c1 ?_
      refine ⟨_, rfl, rfl, ?_⟩
      by_cases e3 : wd = "setting"
      · rw [show decide (V.str wd = V.str "setting") = true from decide_eq_true (by rw [e3])]
        refine ⟨_, rfl, iteT ⟨_, rfl, r, rfl, shr, fun H5 s5 => ⟨_, rfl, ?_⟩⟩⟩
        by_cases e4 : IsNm r
        · exact iteY e4 ⟨_, rfl, _, rfl, by show 2 ≤ sizeLine; decide, fun u hu => ret (yes (.inr ⟨e3, e4⟩)) _ (s3.trans s5) u hu⟩
        · exact iteN e4 (bad (no fun c => c.elim (fun c => c1 c.1) fun c => e4 c.2) _ (s3.trans s5))
      · rw [eq_str e3]
        exact ⟨_, rfl, iteF (bad (no fun c => c.elim (fun c => c1 c.1) fun c => e3 c.1) _ s3)⟩
end
end K3

set_option maxHeartbeats 3900000
namespace K3
open PySem PySem.Spec PyProof.Rows L2 TL
theorem sw1 {x : Str} {c : Nat} {r : List Nat} (e : tl x = c :: r) (a : Nat) : Txt.startswith x (mkS [a]) = decide (c = a) := by
  rw [sw_pre, e, tl_mkS]
  simp [List.isPrefixOf]
  by_cases h : c = a
  · simp [h]
  · simp [h]
    exact fun z => h z.symm
theorem ew1 {x : Str} {c : Nat} {r : List Nat} (e : tl x = r ++ [c]) (a : Nat) : Txt.endswith x (mkS [a]) = decide (c = a) := by
  rw [ew, e, tl_mkS]
  have : (r ++ [c]).drop ((r ++ [c]).length - [a].length) = [c] := by simp
  rw [this]
  simp
theorem sw0 {x : Str} (e : tl x = []) (a : Nat) : Txt.startswith x (mkS [a]) = false := by
  rw [sw_pre, e, tl_mkS]
  rfl
theorem ew0 {x : Str} (e : tl x = []) (a : Nat) : Txt.endswith x (mkS [a]) = false := by
  rw [ew, e, tl_mkS]
  simp
theorem sIx_n (n d : Nat) : HT.sIx n d none = d := rfl
theorem tl_first (x : Str) : tl (cutS x none (some 1)) = (tl x).take 1 := by
  rw [tl_cutS, sIx_n, List.drop_zero, Nat.sub_zero]
  have : HT.sIx x.length x.length (some 1) = min 1 x.length := by
    unfold HT.sIx
    simp
  rw [this, len_tl]
  rcases Nat.lt_or_ge (tl x).length 1 with h | h
  · have h0 : tl x = [] := List.length_eq_zero_iff.mp (by omega)
    rw [h0]
    rfl
  · rw [Nat.min_eq_left h]
theorem tl_lastS (x : Str) : tl (cutS x (some (-1)) none) = (tl x).drop ((tl x).length - 1) := by
  rw [tl_cutS, sIx_n]
  have : HT.sIx x.length 0 (some (-1)) = x.length - 1 := by
    unfold HT.sIx
    simp
    omega
  rw [this, len_tl]
  exact List.take_of_length_le (by rw [List.length_drop]; omega)
theorem tl_butlast (x : Str) : tl (cutS x none (some (-1))) = (tl x).take ((tl x).length - 1) := by
  rw [tl_cutS, sIx_n, List.drop_zero, Nat.sub_zero]
  have : HT.sIx x.length x.length (some (-1)) = x.length - 1 := by
    unfold HT.sIx
    simp
    omega
  rw [this, len_tl]
theorem ends_of (x : Str) : tl x = [] ∨ ∃ r c, tl x = r ++ [c] := by
  rcases List.eq_nil_or_concat (tl x) with h | ⟨r, c, h⟩
  · exact .inl h
  · exact .inr ⟨r, c, by rw [h, List.concat_eq_append]⟩
theorem first_eq (x : Str) (a : Nat) : decide (V.str (cutS x none (some 1)) = V.str (mkS [a])) = Txt.startswith x (mkS [a]) := by
  cases e : tl x with
  | nil =>
    rw [sw0 e]
    refine decide_eq_false fun z => ?_
    have := congrArg tl (V.str.inj z)
    rw [tl_first, e, tl_mkS] at this
    cases this
  | cons c r =>
    rw [sw1 e]
    rw [decide_eq_decide]
    constructor
    · intro z
      have := congrArg tl (V.str.inj z)
      rw [tl_first, e, tl_mkS] at this
      simpa using this
    · rintro rfl
      exact congrArg V.str (ext_tl (by rw [tl_first, e, tl_mkS]; rfl))
theorem last_eq (x : Str) (a : Nat) : decide (V.str (cutS x (some (-1)) none) = V.str (mkS [a])) = Txt.endswith x (mkS [a]) := by
  rcases ends_of x with e | ⟨r, c, e⟩
  · rw [ew0 e]
    refine decide_eq_false fun z => ?_
    have := congrArg tl (V.str.inj z)
    rw [tl_lastS, e, tl_mkS] at this
    cases this
  · have d : (tl x).drop ((tl x).length - 1) = [c] := by rw [e]; simp
    rw [ew1 e, decide_eq_decide]
    constructor
    · intro z
      have := congrArg tl (V.str.inj z)
      rw [tl_lastS, d, tl_mkS] at this
      simpa using this
    · rintro rfl
      exact congrArg V.str (ext_tl (by rw [tl_lastS, d, tl_mkS]))
theorem sign_eq (c a : Nat) : decide (V.str ⟨#[c]⟩ = V.str (mkS [a])) = decide (c = a) := by
  rw [decide_eq_decide]
  constructor
  · intro z
    have := congrArg tl (V.str.inj z)
    have : [c] = [a] := this
    simpa using this
  · rintro rfl
    rfl
theorem sl_mk : ("/" : Str) = mkS [47] := by decide +kernel
theorem nmR_cut (z : Str) : (if Txt.endswith z "/" = true then cutS z none (some (-1)) else z) = NmR z := by
  cases e : Txt.endswith z "/" with
  | false => exact (rms_no e).symm
  | true =>
    refine ext_tl ?_
    show tl (cutS z none (some (-1))) = tl (Txt.removesuffix z "/")
    rw [tl_butlast, rms e, tl_sl]
    rfl
theorem btw_ends {x : Str} {c d : Nat} {r q : List Nat} (h : 1 < x.length) (e1 : tl x = c :: r) (e2 : tl x = q ++ [d]) (a b : Nat) : btw x (mkS [a]) (mkS [b]) = (decide (c = a) && decide (d = b)) := by
  unfold btw
  rw [decide_eq_true h, Bool.true_and, sw1 e1, ew1 e2]
theorem btw_par (x : Str) : btw x "(" ")" = (Txt.startswith x "(" && Txt.endswith x ")") := by
  unfold btw
  rw [q_mk.2.1, q_mk.2.2.1]
  by_cases h : 1 < x.length
  · rw [decide_eq_true h, Bool.true_and]
  · rw [decide_eq_false h, Bool.false_and]
    rw [len_tl] at h
    match e : tl x, h with
    | [], _ => rw [sw0 e]; rfl
    | [c], _ =>
      rw [sw1 e, ew1 (r := []) e]
      by_cases z : c = 40
      · subst z
        decide
      · rw [decide_eq_false z]
        rfl
    | _ :: _ :: _, h => simp at h
theorem par_lits : ("()" : Str) = mkS [40, 41] ∧ ("()" : Str) ≠ "-" ∧ rowT "()" = [] ∧ paM "()" = some (.row []) := by
  refine ⟨by decide +kernel, by decide +kernel, by decide +kernel, ?_⟩
  unfold paM
  rw [if_neg (by decide +kernel), if_neg (by decide +kernel), if_pos (by decide +kernel)]
  rw [show rowT "()" = [] by decide +kernel]
theorem paM_par {x : Str} (h : btw x "(" ")" = true) : paM x = some (.row (rowT x)) := by
  have h2 := h
  rw [q_mk.2.1, q_mk.2.2.1] at h2
  have ex := btw_ex h2
  have ext : tl x = 40 :: (tl (insT x) ++ [41]) := by
    have := congrArg tl ex
    rwa [tl_mkS] at this
  unfold paM
  rw [if_neg, if_neg, if_pos h]
  · rw [q_mk.1]
    unfold btw
    rw [sw1 ext 34]
    simp
  · intro z
    rw [z, q_mk.2.2.2] at ex
    have := mkS_inj ex
    simp at this
theorem ins_par {x : Str} (h : btw x "(" ")" = true) (n : x ≠ "()") : insT x ≠ "" := fun z => by
  rw [q_mk.2.1, q_mk.2.2.1] at h
  have ex := btw_ex h
  rw [z] at ex
  exact n (ex.trans par_lits.1.symm)
theorem ansM_lsN {p : List Str} {x : Str} (n1 : x ≠ "-") (n2 : btw x "(" ")" = false) : ansM (.ls p) x = none := ansM_no fun a g e => by
  cases a with
  | no => exact n1 e
  | tx z => exact g.1
  | es l =>
    rw [e, (btw_es l).2] at n2
    cases n2
theorem ansM_txN {k : Lk} {x : Str} (hk : isLs k = false) (n1 : x ≠ "-") (n2 : btw x "\"" "\"" = false) : ansM k x = none := ansM_no fun a g e => by
  cases a with
  | no => exact n1 e
  | tx z =>
    rw [e, btw_tx z] at n2
    cases n2
  | es l =>
    have := g.1
    cases k <;> first | exact this | cases hk
theorem asc_uniq : ∀ {l m : List Str}, Asc l → Asc m → (∀ x, x ∈ l ↔ x ∈ m) → l = m
  | [], [], _, _, _ => rfl
  | [], b :: m, _, _, h => by cases (h b).mpr List.mem_cons_self
  | a :: l, [], _, _, h => by cases (h a).mp List.mem_cons_self
  | a :: l, b :: m, h1, h2, h => by
    obtain ⟨a1, a2⟩ := List.pairwise_cons.mp h1
    obtain ⟨b1, b2⟩ := List.pairwise_cons.mp h2
    have ab : a = b := by
      rcases List.mem_cons.mp ((h a).mp List.mem_cons_self) with e | e
      · exact e
      · rcases List.mem_cons.mp ((h b).mpr List.mem_cons_self) with e2 | e2
        · exact e2.symm
        · exact absurd (List.lt_trans (b1 a e) (a1 b e2)) (List.lt_irrefl _)
    subst ab
    rw [asc_uniq a2 b2 fun x => ?_]
    constructor
    · intro hx
      rcases List.mem_cons.mp ((h x).mp (List.mem_cons_of_mem _ hx)) with e | e
      · rw [e] at hx
        exact absurd (a1 a hx) (List.lt_irrefl _)
      · exact e
    · intro hx
      rcases List.mem_cons.mp ((h x).mpr (List.mem_cons_of_mem _ hx)) with e | e
      · rw [e] at hx
        exact absurd (b1 a hx) (List.lt_irrefl _)
      · exact e
theorem asc_set {l ys : List Str} (mem : ∀ x, x ∈ ys ↔ x ∈ l) (nd : ys.Nodup) (s : sortedS ys = true) : l = ys ↔ Asc l := by
  have ay : Asc ys := sorted_pw s nd
  constructor
  · intro e
    rw [e]
    exact ay
  · exact fun a => asc_uniq a ay fun x => (mem x).symm
end K3

set_option maxHeartbeats 3900000
namespace SX
open PySem PySem.Spec PyProof.Rows L2 PpSet
def textOf : Value → Str
  | .str x _ => x
  | _ => ""
abbrev txs (es : Array (Int × Value)) : List Str := es.toList.map fun e => textOf e.2
structure Tab (w : World) (es : Array (Int × Value)) (t : SetTable) (S : Str → Bool) (n : Nat) : Prop where
  good : ∀ e ∈ es.toList, ∃ x k, e = (keyH w (.inr x), Value.str x k)
  nd : (txs es).Nodup
  mem : ∀ x, S x = true ↔ x ∈ txs es
  small : es.size < scanBound
  fits : t.fits es.size = true
  size : es.size = n
  ris : Ris t.place.toList
  led : w.params.followText "set-order" = true ∨ t.led = true
def SetT (w : World) (h : Heap) (a : Addr) (S : Str → Bool) (n : Nat) : Prop := ∃ o es ep t, h.get? a = some o ∧ o.ExactSet ∧ o.data = .set es ep t ∧ Tab w es t S n
theorem SetT.at {w : World} {h h' : Heap} {a : Addr} {S : Str → Bool} {n : Nat} (R : SetT w h a S n) (k : ∀ o, h.get? a = some o → h'.get? a = some o) : SetT w h' a S n := by
  obtain ⟨o, es, ep, t, ho, r⟩ := R
  exact ⟨o, es, ep, t, k o ho, r⟩
section
variable {P : Program} {w : World} {es : Array (Int × Value)} {t : SetTable} {S : Str → Bool} {n : Nat}
theorem Tab.elems (T : Tab w es t S n) : ElemsOf (mixKind P w) es.toList := fun e he => by
  obtain ⟨x, k, rfl⟩ := T.good e he
  exact ⟨⟨.inr x, kV_is (k := .inr x) (u := Value.str x k) ⟨k, rfl⟩, rfl⟩, rfl⟩
theorem Tab.moved (T : Tab w es t S n) {es2 : Array (Int × Value)} {t2 : SetTable} (pm : es2.toList.Perm es.toList) (f : t2.fits es2.size = true) (r : Ris t2.place.toList) (l : t2.led = t.led) : Tab w es2 t2 S n := by
  have hs : es2.size = es.size := by rw [← Array.length_toList, pm.length_eq, Array.length_toList]
  exact ⟨fun e he => T.good e (pm.mem_iff.mp he), (pm.map _).nodup_iff.mpr T.nd, fun x => (T.mem x).trans (pm.map _).mem_iff.symm, by rw [hs]; exact T.small, f, by rw [hs]; exact T.size, r, T.led.imp id fun z => by rw [l]; exact z⟩
theorem Tab.again (T : Tab w es t S n) {x : Str} (hx : S x = true) : Tab w es t (fun j => S j || decide (j = x)) n :=
  ⟨T.good, T.nd, fun j => by
    rw [Bool.or_eq_true, decide_eq_true_eq, ← T.mem j]
    exact ⟨fun z => z.elim id fun e => e ▸ hx, .inl⟩, T.small, T.fits, T.size, T.ris, T.led⟩
theorem Tab.more (T : Tab w es t S n) {x : Str} {k : Tok} (hx : S x = false) (room : n + 1 < scanBound) {es2 : Array (Int × Value)} {t2 : SetTable} (pm : es2.toList.Perm (es.push (keyH w (.inr x), .str x k)).toList) (f : t2.fits es2.size = true) (r : Ris t2.place.toList) (l : t2.led = t.led) :
    Tab w es2 t2 (fun j => S j || decide (j = x)) (n + 1) := by
  rw [Array.toList_push] at pm
  have pc := pm.trans (List.perm_append_singleton _ _)
  have pk : (txs es2).Perm (x :: txs es) := pc.map fun e => textOf e.2
  have nx : x ∉ txs es := fun z => by
    rw [(T.mem x).mpr z] at hx
    cases hx
  have hs : es2.size = n + 1 := by rw [← Array.length_toList, pc.length_eq, List.length_cons, Array.length_toList, T.size]
  refine ⟨fun e he => ?_, pk.nodup_iff.mpr (List.nodup_cons.mpr ⟨nx, T.nd⟩), fun j => ?_, by rw [hs]; exact room, f, hs, r, T.led.imp id fun z => by rw [l]; exact z⟩
  · rcases List.mem_cons.mp (pc.mem_iff.mp he) with z | z
    · exact ⟨x, k, z⟩
    · exact T.good e z
  · rw [Bool.or_eq_true, decide_eq_true_eq, T.mem j, pk.mem_iff, List.mem_cons]
    exact Or.comm
theorem Tab.hit (T : Tab w es t S n) {e : Int × Value} (he : e ∈ es.toList) {x : Str} (h : (mixKind P w).is (.inr x) e.2 = true) : S x = true := by
  obtain ⟨y, k, rfl⟩ := T.good e he
  rcases keyIs_shape (show keyIs (.inr x) (Value.str y k) = true from h) with ⟨i, t, e1, e2⟩ | ⟨z, t, e1, e2⟩
  · cases e1
  · cases e1
    cases e2
    exact (T.mem x).mpr (List.mem_map.mpr ⟨_, he, rfl⟩)
theorem Tab.miss (T : Tab w es t S n) {x : Str} (h : List.findIdx? (fun e => (mixKind P w).is (.inr x) e.2) es.toList = none) : S x = false := by
  cases q : S x with
  | false => rfl
  | true =>
    obtain ⟨e, he, ex⟩ := List.mem_map.mp ((T.mem x).mp q)
    obtain ⟨y, k, rfl⟩ := T.good e he
    have c := List.findIdx?_eq_none_iff.mp h _ he
    have c2 : (mixKind P w).is (.inr y) (Value.str y k) = true := kV_is (k := .inr y) (u := Value.str y k) ⟨k, rfl⟩
    rw [show y = x from ex] at c c2
    rw [c2] at c
    cases c
end
section
variable {P : Program} {w : World} {A : Around} {E : Value → Shared → Prop} {s : Shared} {a : Addr} {S : Str → Bool} {n : Nat}
theorem put_at {h : Heap} {o : Obj} {es es' : Array (Int × Value)} {ep : Nat} {t t' : SetTable} (ho : h.get? a = some o) (hd : o.data = .set es ep t) : (h.update a (Obj.putSet es' t')).get? a = some { o with data := .set es' (ep + 1) t' } := storeB_at ho hd
theorem tail {g : Bool → Sem Unit} (hg : ∀ (b : Bool) (s₁ : Shared) (Q' : Unit → Shared → Prop), Q' () s₁ → wpAny (model P w) A (g b) Q' E s₁) {o : Obj} {es : Array (Int × Value)} {ep : Nat} {t : SetTable} (ho : s.heap.get? a = some o) (hex : o.ExactSet) (hd : o.data = .set es ep t)
    {es1 : Array (Int × Value)} {t2 : SetTable} (T : Tab w es1 t2 S n) {wd : Bool} {R : Option Bool → Shared → Prop} (hR : ∀ h', Heap.SameBut a s.heap h' → SetT w h' a S n → R (some true) { s with heap := h' }) :
    wpAny (model P w) A (do
      storeSet a es1 t2
      if (!wd && t2.tooFull) = true then
        (do g (relayAll t2 es1
              (SetTable.grown es1.size)).2.2
            storeSet a (relayAll t2 es1
              (SetTable.grown es1.size)).1 (relayAll t2 es1
              (SetTable.grown es1.size)).2.1
            pure (some true))
      else pure (some true)) R E s := by
  refine wpAny_bind (wpAny_storeSet_of ho hd ?_ (fits_of_scanBound T.small))
  have ho1 := put_at (es' := es1) (t' := t2) ho hd
  have sb1 := Heap.SameBut.update s.heap a (Obj.putSet es1 t2)
  split
  · have T3 := T.moved (relayAll_perm t2 es1 (SetTable.grown es1.size)) (relayAll_fits ..) (relayAll_ris ..) (relayAll_led ..)
    refine wpAny_bind (hg _ _ _ (wpAny_bind (wpAny_storeSet_of ho1 rfl ?_ (fits_of_scanBound T3.small))))
    exact wpAny_pure (hR _ (sb1.trans (Heap.SameBut.update _ a _)) ⟨_, _, _, _, put_at ho1 rfl, hex, rfl, T3⟩)
  · exact wpAny_pure (hR _ sb1 ⟨_, _, _, _, ho1, hex, rfl, T⟩)
theorem add_hashed {x : Str} {k : Tok} {Q : Bool → Shared → Prop} (R : SetT w s.heap a S n) (room : n + 1 < scanBound)
    (hQ : ∀ h', Heap.SameBut a s.heap h' → SetT w h' a (fun j => S j || decide (j = x)) (if S x = true then n else n + 1) → Q (!S x) { s with heap := h' }) : wpAny (model P w) A (setAddHashed a (.str x k) ((mixKind P w).hash (.inr x))) Q E s := by
  obtain ⟨o, es, ep, t, ho, hex, hd, T⟩ := R
  have hkey : (mixKind P w).is (.inr x) (Value.str x k) = true := kV_is (k := .inr x) (u := Value.str x k) ⟨k, rfl⟩
  have hsc : (Value.str x k).scannable = true := rfl
  have hel : ElemsOf (mixKind P w) es.toList := T.elems
  unfold setAddHashed setAddHashedIn
  refine wpAny_holding (wpAny_bind (wpAny_setState_of ho hd T.fits ?_))
  dsimp only
  rw [byScan_of hsc T.small hel]
  simp only [↓reduceIte]
  unfold setAddByScan
  refine wpAny_bind (wpAny_bind (wpAny_rule (wpAny_bind (wpAny_setScan_of hkey ho hd T.fits hel ?_))))
  cases hfi : List.findIdx? (fun e => (mixKind P w).is (.inr x) e.2) es.toList with
  | some j =>
    obtain ⟨hj, pj, _⟩ := List.findIdx?_eq_some_iff_getElem.mp hfi
    have hS := T.hit (List.getElem_mem hj) pj
    have q := hQ s.heap (Heap.SameBut.refl a s.heap) ⟨o, es, ep, t, ho, hex, hd, by rw [if_pos hS]; exact T.again hS⟩
    rw [hS] at q
    exact wpAny_pure (wpAny_pure q)
  | none =>
    have hS := T.miss hfi
    dsimp only
    have gw : ∀ (b : Bool) {s₁ : Shared} {Q' : Unit → Shared → Prop}, Q' () s₁ → wpAny (model P w) A (match b with | true => rule "set.scan.the-table-gave-way" | false => pure ()) Q' E s₁ := fun b s₁ Q' q => by
      cases b
      · exact wpAny_pure q
      · exact wpAny_rule q
    have pm := layNew_perm t es ((mixKind P w).hash (.inr x)) (.str x k)
    have f1 := layNew_fits t es ((mixKind P w).hash (.inr x)) (.str x k)
    have r1 := layNew_ris t es ((mixKind P w).hash (.inr x)) (.str x k) T.ris
    have l1 := layNew_led t es ((mixKind P w).hash (.inr x)) (.str x k)
    generalize layNew t es ((mixKind P w).hash (.inr x)) (.str x k) = Z at pm f1 r1 l1 ⊢
    obtain ⟨es1, t1, wd, gave⟩ := Z
    dsimp only at pm f1 r1 l1 ⊢
    have T1 := T.more hS room pm f1 r1 l1
    have fin : ∀ h', Heap.SameBut a s.heap h' → SetT w h' a (fun j => S j || decide (j = x)) (n + 1) → Q true { s with heap := h' } := fun h' sb r => by
      have q := hQ h' sb
      rw [hS] at q
      exact q r
    refine wpAny_bind (gw _ ?_)
    have gg : ∀ (b : Bool) (s₁ : Shared) (Q' : Unit → Shared → Prop), Q' () s₁ → wpAny (model P w) A (match b with | true => rule "set.scan.the-table-gave-way" | false => pure ()) Q' E s₁ := fun b s₁ Q' q => gw b q
    split
    · refine wpAny_bind ?_
      rw [hashByValue_scannable 8 hsc]
      refine wpAny_pure ?_
      refine tail gg ho hex hd (S := fun j => S j || decide (j = x)) (n := n + 1) ?_ fun h' sb r => wpAny_pure (fin h' sb r)
      split
      · exact T1
      · exact T1.moved (List.Perm.refl _) (SetTable.fits_plain_off f1) r1 rfl
    · refine wpAny_bind (wpAny_pure ?_)
      simp only [↓reduceIte]
      exact tail gg ho hex hd (S := fun j => S j || decide (j = x)) (n := n + 1) T1 fun h' sb r => wpAny_pure (fin h' sb r)
theorem add {x : Str} {k : Tok} {Q : Value → Shared → Prop} (R : SetT w s.heap a S n) (room : n + 1 < scanBound)
    (hQ : ∀ h', Heap.SameBut a s.heap h' → SetT w h' a (fun j => S j || decide (j = x)) (if S x = true then n else n + 1) → Q .none { s with heap := h', toks := s.toks + 1 }) :
    wpAny (model P w) A (call (.builtin "set.add") [.ref a, .str x k]) Q E s := by
  have hT : s.TypeIs (.ref a) "set" := by
    obtain ⟨o, es, ep, t, ho, hex, _⟩ := R
    exact ⟨o, ho, hex.1⟩
  refine wpAny_call_entry F.slot_set_add hT F.entry_set_add ?_ (F.args_set_add_2 _ _)
  unfold Builtin.«set.add» Builtin.Frozenset.oneOther
  simp only [List.isEmpty_nil, bind_assoc]
  unfold Builtin.Frozenset.addrOf setAdd
  refine wpAny_bind (wpAny_pure ?_)
  try dsimp only
  refine wpAny_bind (wpAny_pure ?_)
  try dsimp only
  refine wpAny_bind (wpAny_holding (wpAny_bind ((mixKind P w).pyHash (kV_is (k := .inr x) (u := Value.str x k) ⟨k, rfl⟩) ?_)))
  refine add_hashed (s := { s with toks := s.toks + 1 }) R room fun h' sb r => ?_
  show wpAny _ _ (ret Value.none) _ _ _
  exact wpAny_pure ⟨_, rfl, hQ h' sb r⟩
theorem fresh {h : Heap} (w : World) : SetT w (h.push { cls := .type "set", dict := none, data := .set #[] 0 (.fresh 0 0 (!w.params.followText "set-order")) }) h.objs.size (fun _ => false) 0 := by
  refine ⟨_, #[], 0, _, Heap.get?_push_size _ rfl, ⟨rfl, rfl, rfl⟩, rfl, (fun e he => by simp at he), by simp [txs], (fun k => by simp [txs]), by decide, by rfl, rfl, List.Pairwise.nil, ?_⟩
  show _ ∨ (!w.params.followText "set-order") = true
  cases w.params.followText "set-order"
  · exact .inr rfl
  · exact .inl rfl
end
def SetTO (w : World) (a : Addr) (S : Str → Bool) (n : Nat) : HO := .ext fun h => SetT w h a S n
theorem new_ok {w : World} {P : Program} {H : Hp} {h : Heap} {a : Addr} {S : Str → Bool} {n : Nat} (R : SetT w h a S n) : ObjOk P w H h a (SetTO w a S n) := by
  have ⟨o, _, _, _, ho, _⟩ := R
  exact ⟨R, ⟨o, ho⟩, fun h1 h2 p k => SetT.at p k⟩
section
variable {X : Cx} {pins : List (Addr × Obj)} {σ : L2.St} {H : Hp} {s : Shared} {a : Addr} {S : Str → Bool} {n : Nat}
theorem get (I : Inv X pins σ H s) (ha : H a = some (SetTO X.w a S n)) : SetT X.w s.heap a S n := (I.hok a _ ha).1
end
theorem strs_of : ∀ (l : List Value), (∀ v ∈ l, ∃ x k, v = Value.str x k) → StrsAre l (l.map textOf)
  | [], _ => .nil
  | v :: r, h => by
    obtain ⟨x, k, rfl⟩ := h v List.mem_cons_self
    exact .cons _ _ (strs_of r fun u hu => h u (List.mem_cons_of_mem _ hu))
def rSortT (w : World) : List V → Hp → VK → Prop := fun vs H Q => ∃ (a : Addr) (S : Str → Bool) (n : Nat), vs = [V.ref a] ∧ H a = some (SetTO w a S n) ∧ n < 64 ∧
  ∀ (ys : List Str) (p : Addr), (∀ x, x ∈ ys ↔ S x = true) → ys.Nodup → ys.length = n → sortedS ys = true → H p = none → Q (.ref p) (upd H p (.lst (ys.map V.str)))
section
variable {X : Cx}
theorem cr_sortT (hc : X.calm = true) : CallR X (.builtin "sorted") (rSortT X.w) := by
  intro pins s σ H vs us Q I r h
  obtain ⟨a, S, n, rfl, ha, h64, q⟩ := h
  obtain ⟨o, es, ep, t, ho, hex, hd, T⟩ := get I ha
  rw [Vals.ref1 r]
  refine Calls.call_function_entry kind_sorted plain_sorted entry_sorted (args_sorted1 _) ?_
  unfold Builtin.«sorted»
  refine wpAny_bind (m := checkCount "sorted" 1 1 _) (wpAny_pure (wpAny_bind ?_))
  refine collect_set (A := X.A.in1) (I.ok.hd hc) ⟨o, ho, hex.1, hd⟩ T.fits T.small T.ris T.led fun s1 out k1 hz g1 o1 pm => ?_
  have ol : out.length = n := by rw [pm.length_eq, List.length_map, Array.length_toList, T.size]
  have hS : StrsAre out (out.map textOf) := strs_of out fun v hv => by
    obtain ⟨e, he, rfl⟩ := List.mem_map.mp (pm.mem_iff.mp hv)
    obtain ⟨x, k, rfl⟩ := T.good e he
    exact ⟨x, k, rfl⟩
  have pt : (out.map textOf).Perm (txs es) := by
    have z := pm.map textOf
    rw [List.map_map] at z
    exact z
  have I1 : Inv X pins σ H s1 := I.call' (ch := []) o1 (Un.kept k1) (I.hok.kept k1) (by rw [g1]; exact I.bare) (fun _ z => nomatch z)
  refine wpAny_bind (wpAny_newList ?_ (by rw [ol, sizeLine_eq]; omega))
  have hoL : (s1.heap.push (seqObj "list" out.toArray 0)).get? s1.heap.objs.size = some (seqObj "list" out.toArray 0) := Heap.get?_push_size _ rfl
  show wpAny _ _ _ _ _ { s1 with heap := s1.heap.push (seqObj "list" out.toArray 0) }
  refine wpAny_bind (wpAny_holding (wpAny_call_entry slot_list_sort ⟨_, hoL, rfl⟩ entry_list_sort ?_ (args_list_sort _)))
  refine list_sort_treeK strKind_oneLt (s := { s1 with heap := s1.heap.push (seqObj "list" out.toArray 0) }) hoL hS.keysOf (fun v₁ v₂ rest e => keyKind_strs (by rw [← e]; exact hS)) (by rw [ol]; exact h64) fun st' hp hs => ⟨_, rfl, ?_⟩
  obtain ⟨ys, e1, e2, e3⟩ := sorted_out_str hS hp hs
  obtain ⟨e', he'⟩ := sortedHeap_at (vs := out) (out := (arrOf st').map (·.2)) hoL
  have yl : ys.length = n := by rw [e2.length_eq, List.length_map, ol]
  have hlen : (ys.map V.str).length ≤ sizeLine := by
    rw [List.length_map, yl]
    exact Nat.le_trans (Nat.le_of_lt h64) (by decide)
  have pp := e2.trans pt
  refine wpAny_pure ⟨_, rfl, .ref s1.heap.objs.size, upd H s1.heap.objs.size (.lst (ys.map V.str)), I1.laid (t' := s1.toks) (fun b u e => ?_) (Nat.le_refl _) ?_, rfl, ?_⟩
  · have hb : b < s1.heap.objs.size := Heap.lt_size e
    rw [sortedHeap_old (Nat.ne_of_lt hb) (by rw [size_push']; exact Nat.lt_succ_of_lt hb)]
    exact Heap.get?_push_of_some _ e
  · show ObjOk X.prog X.w _ _ _ (.lst (ys.map V.str))
    exact ⟨hlen, ((arrOf st').map (·.2)).toList, e', vals_of_strs e1, by rw [Array.toArray_toList]; exact he'⟩
  · exact q ys _ (fun x => by rw [pp.mem_iff, ← T.mem x]) (pp.nodup_iff.mpr T.nd) yl e3 (I1.hok.fresh (Nat.le_refl _))
end
end SX

set_option maxHeartbeats 3900000
namespace SX
open PySem PySem.Spec PyProof.Rows L2 PpSet
section
variable {X : Cx} {elt tg iter : Expr} {ifs : List Expr} {scope : Scope} {own : List (PySem.Str × Nat)} {pos : Pos} {wi : TI} {g : TG} {tt : TT} {te : TE}
end
end SX

set_option maxHeartbeats 3900000
namespace SX
open PySem PySem.Spec PyProof.Rows L2 PpSet
theorem texts_at : ∀ {xs : List Str} {vs : List Value}, Vals (xs.map V.str) vs → ∀ (i : Nat) (v : Value), vs[i]? = some v → ∃ x t, xs[i]? = some x ∧ v = .str x t
  | [], [], _, i, v, h => by simp at h
  | x :: xs, u :: vs, .cons h r, 0, v, e => by
    obtain ⟨t, ht⟩ : ∃ t, u = Value.str x t := h
    rw [List.getElem?_cons_zero] at e
    cases e
    exact ⟨x, t, rfl, ht⟩
  | x :: xs, u :: vs, .cons h r, i + 1, v, e => by
    rw [List.getElem?_cons_succ] at e
    rw [List.getElem?_cons_succ]
    exact texts_at r i v e
section
variable {P : Program} {w : World} {A : Around} {E : Value → Shared → Prop} {s : Shared}
theorem grow {w : World} {S I : Addr} {fp wr : List Addr} {G : Array GenState → Array GenState → Prop} {n : Nat} {Pv : Nat → Value → Prop} {St : Nat → Shared → Prop} {R : Result → Shared → Prop}
    (W : WalksS P w A.in1 I fp wr G n Pv St) (hSf : S ∉ fp) (xs : List Str) (hn : n = xs.length) (hfew : xs.length + 1 < scanBound) (hval : ∀ i v, Pv i v → ∃ x t, xs[i]? = some x ∧ v = .str x t)
    (h0 : Heap) (hS0 : h0.get? S = none) (hw0 : ∀ b ∈ wr, h0.get? b = none) :
    ∀ (k i : Nat) (s : Shared), n - i = k → i ≤ n → St i s → (∀ b o, h0.get? b = some o → s.heap.get? b = some o) → (∃ Sf m, SetT w s.heap S Sf m ∧ m ≤ i ∧ ∀ x, Sf x = true ↔ x ∈ xs.take i) →
      (∀ s' Sf m, Moved (S :: wr) G s s' → SetT w s'.heap S Sf m → m ≤ n → (∀ x, Sf x = true ↔ x ∈ xs) → (∀ b o, h0.get? b = some o → s'.heap.get? b = some o) → R (.ok (.ret .none)) s') →
      codeAny (model P w) A (.builtin "set.update.loop" ⟨[.ref S, .ref I], []⟩) R s := by
  have hSw : S ∉ wr := fun h => hSf (W.sub _ h)
  have hsub : ∀ b ∈ wr, b ∈ S :: wr := fun b hb => List.mem_cons_of_mem _ hb
  have keepM : ∀ {s s' : Shared}, Moved wr G s s' → (∀ b o, h0.get? b = some o → s.heap.get? b = some o) → ∀ b o, h0.get? b = some o → s'.heap.get? b = some o := fun hm hkp b o e =>
    hm.heap b o (fun hb => by rw [hw0 b hb] at e; cases e) (hkp b o e)
  intro k
  induction k with
  | zero =>
    intro i s hk' hi hst hkp ⟨Sf, m, hS, hm0, hx⟩ hR
    have hin : i = n := by omega
    subst hin
    refine codeAny_builtin F.entry_set_update_loop ?_
    rw [Around.under_plainId F.plain_set_update_loop _]
    show wpAny _ A.in1 (pyNext (.ref I) >>= _) _ _ s
    refine wpAny_bind (W.done s _ _ hst fun s' hm => ?_)
    show wpAny _ A.in1 (ret Value.none) _ _ s'
    refine wpAny_pure (hR s' Sf m (hm.mono hsub) (hS.at fun o e => hm.heap S o hSw e) hm0 (fun x => ?_) (keepM hm hkp))
    rw [hx x, hn, List.take_length]
  | succ k ih =>
    intro i s hk' hi hst hkp ⟨Sf, m, hS, hm0, hx⟩ hR
    have hlt : i < n := by omega
    refine codeAny_builtin F.entry_set_update_loop ?_
    rw [Around.under_plainId F.plain_set_update_loop _]
    show wpAny _ A.in1 (pyNext (.ref I) >>= _) _ _ s
    refine wpAny_bind (W.item i s _ _ hlt hst fun v s' hP hst' hm => ?_)
    obtain ⟨y, t, hy, rfl⟩ := hval i v hP
    have hkp' := keepM hm hkp
    have hS' : SetT w s'.heap S Sf m := hS.at fun o e => hm.heap S o hSw e
    show wpAny _ A.in1 (holding [Value.str y t] (setAdd S (.str y t)) >>= _) _ _ s'
    refine wpAny_bind (wpAny_holding ?_)
    unfold setAdd
    refine wpAny_holding ?_
    refine wpAny_bind ((mixKind P w).pyHash (kV_is (k := .inr y) (u := Value.str y t) ⟨t, rfl⟩) ?_)
    refine add_hashed (s := { s' with toks := s'.toks + 1 }) hS' (by omega) fun h' hsb hS2 => ?_
    have hkp2 : ∀ b o, h0.get? b = some o → h'.get? b = some o := fun b o e => (hsb.2 b (fun z => by rw [z, hS0] at e; cases e)).trans (hkp' b o e)
    have tk : xs.take (i + 1) = xs.take i ++ [y] := by
      rw [List.take_succ, hy]
      rfl
    refine wpAny_pure ⟨plainId_quiet F.plain_set_update_loop _, ih (i + 1) _ (by omega) hlt (W.frame _ s' _ _ hst' (Nat.le_add_right _ _) fun b hb o e => ?_) hkp2 ⟨_, _, hS2, by split <;> omega, fun x => ?_⟩ fun s'' S2 m2 hm'' hS'' g1 g2 hkp'' => ?_⟩
    · rw [hsb.2 b (fun h : b = S => hSf (by rw [← h]; exact hb))]; exact e
    · show (Sf x || decide (x = y)) = true ↔ _
      rw [Bool.or_eq_true, decide_eq_true_eq, hx x, tk, List.mem_append, List.mem_singleton]
    · refine hR s'' S2 m2 (Moved.trans W.gtrans ((hm.mono hsub).then_heap (Nat.le_add_right _ _) fun b o hb e => ?_) hm'') hS'' g1 g2 hkp''
      rw [hsb.2 b (fun h : b = S => hb (by rw [h]; exact List.mem_cons_self))]; exact e
set_option maxHeartbeats 3900000 in
theorem call_texts {l : Addr} {items : Array Value} (xs : List Str) {Q : Value → Shared → Prop} (hh : A.handled = none) (hl : s.heap.IsList l items) (hit : Vals (xs.map V.str) items.toList)
    (hfew : xs.length + 1 < scanBound)
    (h : ∀ (h' : Heap) (tk : Nat) Sf m, SetT w h' s.heap.objs.size Sf m → m ≤ xs.length → (∀ x, Sf x = true ↔ x ∈ xs) → (∀ b o, s.heap.get? b = some o → h'.get? b = some o) → Q (.ref s.heap.objs.size) { s with heap := h', toks := tk }) :
    wpAny (model P w) A (call (.type "set") [.ref l]) Q E s := by
  have hisz : items.size = xs.length := by
    have q := hit.length
    rw [List.length_map, Array.length_toList] at q
    exact q.symm
  obtain ⟨c, tl, hmro⟩ := F.called_set.mro
  have hmade := F.called_set.made
  have hsub := F.called_set.sub
  refine wpAny_call (codeAny_of_tree ?_)
  show wpAny _ _ (callAny (.type "set") _) _ _ _
  refine wpAny_pure ⟨Code.quiet_builtin _ (by decide +kernel), codeAny_builtin F.entry_type_call ?_⟩
  rw [Around.under_plain (weight_type_call_type "set" [.ref l] []) rfl]
  have h1 := F.called_set.notType
  have h2 := F.called_set.canCreate
  have hct := F.typeCall_set_1 (.ref l)
  repeat (any_goals (first | assumption | wp_step))
  refine codeAny_mono (code_set_led1 (.ref l) (E := E) (Q₁ := fun obj s₁ => obj = .ref s.heap.objs.size ∧ s₁ = { s with heap := s.heap.push { cls := .type "set", dict := none, data := .set #[] 0 (.fresh 0 0 (!w.params.followText "set-order")) } }) ⟨rfl, rfl⟩) fun r s₁ hr => ?_
  cases r with
  | error e => exact hr
  | ok fl =>
    cases fl with
    | ret obj =>
      obtain ⟨rfl, rfl⟩ := hr
      have hS : (s.heap.push { cls := .type "set", dict := none, data := .set #[] 0 (.fresh 0 0 (!w.params.followText "set-order")) }).get? s.heap.objs.size = some { cls := .type "set", dict := none, data := .set #[] 0 (.fresh 0 0 (!w.params.followText "set-order")) } := Heap.get?_push_size _ rfl
      have hT : Shared.TypeIs { s with heap := s.heap.push { cls := .type "set", dict := none, data := .set #[] 0 (.fresh 0 0 (!w.params.followText "set-order")) } } (.ref s.heap.objs.size) "set" := ⟨_, hS, rfl⟩
      have hli := F.called_set.init.lookup
      have hbi := F.called_set.init.bind (.ref s.heap.objs.size)
      repeat (any_goals (first | assumption | wp_step))
      refine codeAny_mono (codeAny_call_builtin (R := wants (fun r s₂ => r = .none ∧ ∃ h' tk Sf m, s₂ = { s with heap := h', toks := tk } ∧ SetT w h' s.heap.objs.size Sf m ∧ m ≤ xs.length ∧ (∀ x, Sf x = true ↔ x ∈ xs) ∧
          (∀ b o, s.heap.get? b = some o → h'.get? b = some o)) E) F.called_set.init.plain F.entry_set_init (check_set_init_1 hT ?_)) fun r₂ s₂ hr₂ => ?_
      · obtain ⟨ol, hol, hcl, nl, hdl⟩ := hl
        obtain ⟨ocls, odict, odata, oslots⟩ := ol
        simp only at hcl hdl
        subst hcl; subst hdl
        have hol' : (s.heap.push { cls := .type "set", dict := none, data := .set #[] 0 (.fresh 0 0 (!w.params.followText "set-order")) }).get? l = some { cls := .type "list", dict := odict, data := .seq items nl, slots := oslots } := Heap.get?_push_of_some _ hol
        have hsls := F.sub_list_set
        have hslf := F.sub_list_frozenset
        have hne : (Value.type "list" == Value.type "dict") = false := by decide
        have hl1 : (s.heap.push { cls := .type "set", dict := none, data := .set #[] 0 (.fresh 0 0 (!w.params.followText "set-order")) }).IsList l items := ⟨_, hol', rfl, nl, rfl⟩
        unfold Builtin.«set.__init__» noKeywords Builtin.Frozenset.updateFrom
        generalize hPI : pyIter = PI
        wp_walk
        subst hPI
        refine wpAny_pyIter_list hl1 ?_
        refine wpAny_bind (wpAny_runValue ?_)
        have hlS : l < s.heap.objs.size := Heap.lt_size hol
        have hh3 : A.in1.in1.in1.handled = none := by simp [hh]
        have hneI : l ≠ (s.heap.push { cls := .type "set", dict := none, data := .set #[] 0 (.fresh 0 0 (!w.params.followText "set-order")) }).objs.size := by
          rw [Heap.size_push]; exact Nat.ne_of_lt (Nat.lt_succ_of_lt hlS)
        have hSf : s.heap.objs.size ∉ [(s.heap.push { cls := .type "set", dict := none, data := .set #[] 0 (.fresh 0 0 (!w.params.followText "set-order")) }).objs.size, l] := by
          rw [Heap.size_push]; simp only [List.mem_cons, List.mem_singleton, List.not_mem_nil, or_false, not_or]
          exact ⟨Nat.ne_of_lt (Nat.lt_succ_self _), Nat.ne_of_gt hlS⟩
        have hval : ∀ (i : Nat) (v : Value), items[i]? = some v → ∃ x t, xs[i]? = some x ∧ v = .str x t := fun i v hv => by
          have q : items.toList[i]? = some v := by rw [Array.getElem?_toList]; exact hv
          exact texts_at hit i v q
        have none_of : ∀ b, s.heap.objs.size ≤ b → s.heap.get? b = none := fun b hb => by
          cases q : s.heap.get? b with
          | none => rfl
          | some o => exact absurd (Nat.lt_of_lt_of_le (Heap.lt_size q) hb) (Nat.lt_irrefl _)
        refine grow ((Walks.list hh3 _ l hneI items).toS)
          hSf xs hisz hfew hval s.heap (none_of _ (Nat.le_refl _)) (fun b hb => none_of b (by
            rw [List.mem_singleton.mp hb, Heap.size_push]
            exact Nat.le_succ _)) (items.size - 0) 0 _ (by omega) (Nat.zero_le _)
          ⟨⟨_, Heap.get?_push_size _ rfl, rfl, rfl⟩, (hl1.push _)⟩ (fun b o e => Heap.get?_push_of_some _ (Heap.get?_push_of_some _ e)) ?hS0 ?hR
        case hS0 =>
          refine ⟨fun _ => false, 0, (fresh w).at fun o e => Heap.get?_push_of_some _ e, Nat.le_refl _, fun x => by simp⟩
        case hR =>
          intro s' Sf m hm hS' g1 g2 hkp
          obtain ⟨h', gg, d', tk', os'⟩ := s'
          have eg : gg = s.gens := hm.gens
          have ed : d' = s.drawn := hm.drawn
          have eo : os' = s.os := hm.os
          subst eg; subst ed; subst eo
          show wpAny _ _ _ _ _ _
          refine wpAny_pure ?_
          show wpAny _ _ (ret Value.none) _ _ _
          exact wpAny_pure ⟨rfl, h', tk', Sf, m, rfl, hS', by omega, g2, hkp⟩
      · cases r₂ with
        | error e => exact hr₂
        | ok fl₂ =>
          cases fl₂ with
          | ret r =>
            obtain ⟨rfl, h', tk, Sf, m, rfl, hS', g1, g2, hk'⟩ := hr₂
            repeat (any_goals (first | assumption | wp_step))
            exact h _ _ _ _ hS' g1 g2 hk'
          | _ => exact hr₂.elim
    | _ => exact hr.elim
end
def rSetTx (K : PySem.W.Frag) (w : World) : List V → Hp → VK → Prop := fun vs H Q => ∃ (l : Addr) (xs : List Str), vs = [V.ref l] ∧ SqL K H l (xs.map V.str) ∧ xs.length < 100 ∧
  ∀ (p : Addr) (Sf : Str → Bool) (n : Nat), H p = none → (∀ x, Sf x = true ↔ x ∈ xs) → n ≤ xs.length → Q (.ref p) (upd H p (SetTO w p Sf n))
theorem cr_setTx {X : Cx} (hc : X.calm = true) : CallR X (.type "set") (rSetTx X.K X.w) := by
  intro pins s σ H vs us Q I r h
  obtain ⟨l, xs, rfl, hl, hf, q⟩ := h
  rw [Vals.ref1 r]
  obtain ⟨its, rv, pl, hz⟩ := I.list hl
  have hn : H s.heap.objs.size = none := I.hok.fresh (Nat.le_refl _)
  refine call_texts (P := X.prog) (w := X.w) xs (I.ok.hd hc) pl.isList (by simpa using rv) (Nat.lt_of_lt_of_le (show xs.length + 1 < 101 by omega) (by decide)) fun h' tk Sf m R g1 g2 k => ?_
  exact ⟨.ref s.heap.objs.size, upd H s.heap.objs.size (SetTO X.w s.heap.objs.size Sf m), I.laid (t' := tk) k (Nat.le_refl _) (new_ok R), rfl, q _ Sf m hn g2 g1⟩
end SX

set_option maxHeartbeats 3900000
namespace K3
open PySem PySem.Spec PyProof.Rows L2 TL
open C8 (pss_cut tCut pe_gc)
open CB XW LE LR
abbrev sLAnOf : Stmt := top 82
def AnRr (H : Hp) (v : V) : Option An → Prop
  | none => v = .non
  | some a => ∃ t va, v = .ref t ∧ H t = some (.tup [va]) ∧ AnAt H va a
theorem AnRr.up {H H' : Hp} {v : V} {o : Option An} (h : AnRr H v o) (s : Same H H') : AnRr H' v o := by
  cases o with
  | none => exact h
  | some a =>
    obtain ⟨t, va, e, h1, h2⟩ := h
    exact ⟨t, va, e, s _ _ h1, h2.up s⟩
def spLAnOf : Sp := fun vs H Q _ => ∃ u x k, vs = [.ref u, .str x] ∧ H u = some (.tup (lkV k)) ∧ LkG k ∧ Lb x ∧ ∀ v H', Same H H' → AnRr H' v (ansM k x) → Q v H'
theorem shaped_strsL (l : List Str) (hl : ∀ z ∈ l, Okz z) : SeqAt.shaped (.list (l.map .str)) = true := by
  have h := dep_strs l
  have h2 : PyData.depth (.list (l.map .str)) ≤ 64 := by
    simp only [PyData.depth]
    omega
  show (PyData.canLay0 (.list (l.map .str)) && decide (PyData.depth (.list (l.map .str)) ≤ 64)) = true
  rw [Bool.and_eq_true]
  exact ⟨by simp only [PyData.canLay0]; exact lay_strs l hl, decide_eq_true h2⟩
theorem eqv_listS (l m : List Str) : PyData.eqv (.list (l.map .str)) (.list (m.map .str)) = decide (l = m) := by
  have := eqv_strs l m
  simp only [PyData.eqv]
  exact this
theorem two_looks {k : Lk} (h : LkW k) : ([lkD .tl, lkD (.ls [])].any fun z => PyData.eqv z (lkD k)) = decide (k = .tl ∨ k = .ls []) := by
  have := any_lk h (l := [.tl, .ls []]) (fun t ht => by
    rcases List.mem_cons.mp ht with rfl | ht
    · exact trivial
    · rw [List.mem_singleton.mp ht]
      exact ⟨by simp [Nms], by decide⟩)
  rw [show [lkD .tl, lkD (.ls [])] = [Lk.tl, .ls []].map lkD from rfl, this, decide_eq_decide]
  simp
open Classical in
noncomputable instance (zs : List Str) : Decidable (RowOk zs) := Classical.propDecidable _
theorem two_shaped : SeqAt.shaped (.tuple [lkD .tl, lkD (.ls [])]) = true := by decide +kernel
section
variable {P : Program} {w : World} {K : PySem.W.Frag} {mg : Str → Option Value} {base : Heap} {CR : Addr}
theorem scLAnOf : FnScope ["_law_look_here", "_law_text_here", "_law_is_text", "_law_entries", "_law_names", "_law_is_right", "_law_one"] ["_law_look_here", "_law_text_here"] (defScope sLAnOf) := ⟨rfl, rfl, rfl, by decide +kernel, rfl, by decide +kernel, by decide +kernel⟩
theorem ok_lanof {f fN : Addr} {fd fdN : FuncData} (F : Fun K "_law_answer_of" "_law_answer_of" sLAnOf f fd) (T : TB mg) (mSet : mg "set" = none) (aLIsNm : At K mg "_law_is_name" fN fdN ["_law_thing"]) (GLIsNm : FnOk P w K mg base CX0 1 fN fdN ["_law_thing"] spLIsNm) : FnOk P w K mg base CX0 2 f fd ["_law_look_here", "_law_text_here"] spLAnOf := by
  refine F.ok scLAnOf (fun vs H Q E h => ?_) (fun cdv A outer s H vs Q E hr h => ?_)
  · obtain ⟨u, x, k, rfl, _⟩ := h
    rfl
  · obtain ⟨u, x, k, rfl, hu, gk, lb, fin⟩ := h
    have hu0 : (A.deeper (envOfC "_law_answer_of" (defScope sLAnOf) s.heap.objs.size f cdv)).units + 65 < cLine := by have := hr.un; omega
    have hun : (A.deeper (envOfC "_law_answer_of" (defScope sLAnOf) s.heap.objs.size f cdv)).units + 64 < cLine := hr.units
    have sz : 1000000 ≤ sizeLine := by decide
    have ll := lb.ln
    have kw := gk.1.w
    refine ⟨_, pss_cons (ps_if (pt_cmpR op_eq (pv 1) pe_str (nomark _)) (pss_one (ps_ret (pe_ifExp (pt_cmpR (EE.op_inT hu0) (pv 0) (pe_tup (pa_cons (pe_tup (pa_cons pe_str pa_nil)) (pa_cons (pe_tup (pa_cons pe_str (pa_cons pe_str pa_nil))) pa_nil))) (by rfl)) pe_non (pe_tup (pa_cons pe_non pa_nil))))) (pss_nil))
            (pss_cons (ps_if (pt_cmpR op_ne (pe_ix ix_tup (pv 0) pe_int (fun _ _ => rfl)) pe_str (nomark _)) (pss_cut (ps_set (i := 2) scLAnOf.nd rfl (Or.inl rfl) (pe_and (pe_cmpR op_gt (pe_callB call_len_str (by rfl) T.len PySem.boot_len (pa_cons (pv 1) pa_nil)) pe_int (nomark _)) (pe_and (pe_cmpR op_eq (pe_ix ix_str (pv 1) pe_int (fun _ _ => rfl)) pe_str (nomark _)) (pe_one (pe_cmpR op_eq (pe_ix ix_str (pv 1) (pe_un un_neg pe_int) (fun _ _ => rfl)) pe_str (nomark _))))))
            (pss_one (ps_ret (pe_ifExp (pt_val (pv 2)) (pe_tup (pa_cons (pe_slice sl_str (pv 1) (po_some pe_int) (po_some (pe_un un_neg pe_int))) pa_nil)) pe_non)))) (pss_nil))
            (pss_cons (ps_if (PW.pt (pw_or (pt_cmpR op_ne (pe_slice sl_str (pv 1) po_none (po_some pe_int)) pe_str (nomark _)) (pw_or (pt_cmpR op_ne (pe_slice sl_str (pv 1) (po_some (pe_un un_neg pe_int)) po_none) pe_str (nomark _)) (pw_or1 (pt_cmpR op_eq (pv 1) pe_str (nomark _)))))) (pss_one (ps_ret (pe_ifExp (PW.pt (pw_and (pt_cmpR op_eq (pv 1) pe_str (nomark _)) (pw_and1 (pt_cmpR op_eq (pe_ix ix_tup (pv 0) pe_int (fun _ _ => rfl)) pe_str (nomark _))))) (pe_tup (pa_cons (pe_tup pa_nil) pa_nil)) pe_non))) (pss_nil))
            (pss_cons (ps_set (i := 3) scLAnOf.nd rfl (Or.inl rfl) (pe_bm PySem.F.plainAttrs_str PySem.F.slot_str_split PySem.F.type_str_split mt_split (pe_slice sl_str (pv 1) (po_some pe_int) (po_some (pe_un un_neg pe_int))) (pa_cons pe_str pa_nil)))
            (pss_cons (ps_setLc (i := 4) (own := [("_law_one", 6)]) (g := gName 6) (tt := tYes) rfl scLAnOf.nd rfl rfl (sw_true rfl rfl rfl (by decide +kernel)) (pi_list (pv 3)) (blkOk_by (own := [("_law_one", 6)]) (N := ["_law_look_here", "_law_text_here", "_law_is_text", "_law_entries", "_law_names", "_law_is_right", "_law_one"]) (sc := defScope sLAnOf) (by decide +kernel)) (fun _ _ _ _ _ => (pg_name (i := 6) scLAnOf.nd rfl (Or.inl rfl))) (fun _ _ _ _ _ => pts_nil) (fun _ _ _ _ _ => (by exact (pe_ifExp (pt_cmpR op_eq (pe_slice sl_str (pv 6) (po_some (pe_un un_neg pe_int)) po_none) pe_str (nomark _)) (pe_slice sl_str (pv 6) po_none (po_some (pe_un un_neg pe_int))) (pv 6)))))
            (pss_cut (ps_set (i := 5) scLAnOf.nd rfl (Or.inl rfl) (pe_and (pe_callB (cr_all rfl) (by rfl) T.all boot_all (pa_cons (pe_lc (own := [("_law_one", 6)]) (g := gName 6) (tt := tYes) rfl scLAnOf.nd (pi_list (pv 4)) (blkOk_by (own := [("_law_one", 6)]) (N := ["_law_look_here", "_law_text_here", "_law_is_text", "_law_entries", "_law_names", "_law_is_right", "_law_one"]) (sc := defScope sLAnOf) (by decide +kernel)) (fun _ _ _ _ _ => (pg_name (i := 6) scLAnOf.nd rfl (Or.inl rfl))) (fun _ _ _ _ _ => pts_nil) (fun _ _ _ _ _ => (by exact (pe_call GLIsNm (hr.mono (by decide)) rfl aLIsNm.m aLIsNm.k aLIsNm.b .nil pass0 (pa_cons (pv 6) pa_nil))))) pa_nil)) (pe_one (pe_cmpR (op_eqD hun) (pv 4) (pe_callB (SX.cr_sortT rfl) (by rfl) T.sorted (by decide +kernel) (pa_cons (pe_callTy (SX.cr_setTx rfl) (by rfl) mSet (by decide +kernel) (pa_cons (pv 4) pa_nil)) pa_nil)) (nomark _)))))
            (pss_one (ps_ret (pe_ifExp (pt_val (pv 5)) (pe_tup (pa_cons (pe_callTy call_tuple_of (by rfl) T.tuple (by decide +kernel) (pa_cons (pv 3) pa_nil)) pa_nil)) pe_non)))))))), ?_⟩
    by_cases e1 : x = "-"
    · subst e1
      rw [ansM_dash k] at fin
      refine ⟨_, rfl, rfl, ?_⟩
      rw [eq_strT]
      refine ⟨_, rfl, iteT ⟨_, rfl, by show 1 ≤ sizeLine; decide, fun a ha => ⟨by show 2 ≤ sizeLine; decide, fun b hb => ⟨by show 2 ≤ sizeLine; decide, fun c hc => ?_⟩⟩⟩⟩
      have sa := same_mk (o := .tup [.str "tool"]) ha
      have sb := same_mk (o := .tup [.str "list", .str ""]) hb
      have sc := same_mk (o := .tup [.ref a, .ref b]) hc
      have sabc := (sa.trans sb).trans sc
      refine ⟨lkD k, [lkD .tl, lkD (.ls [])], lk_dp (sabc _ _ hu), .tup (SqT.of upd_same) (.cons (lk_dp (k := .tl) ((sb.trans sc) _ _ upd_same)) (.cons (lk_dp (k := .ls []) (sc _ _ upd_same)) .nil)), lkD_shaped kw, two_shaped, ?_⟩
      rw [two_looks kw]
      refine ⟨_, rfl, ?_⟩
      by_cases c1 : k = .tl ∨ k = .ls []
      · rw [if_pos c1] at fin
        exact iteY c1 (fin _ _ sabc rfl)
      · rw [if_neg c1] at fin
        exact iteN c1 ⟨by show 1 ≤ sizeLine; decide, fun t ht => fin _ _ (sabc.trans (same_mk ht)) ⟨t, .non, rfl, upd_same, rfl⟩⟩
    refine ⟨_, rfl, rfl, ?_⟩
    rw [eq_str e1]
    refine ⟨_, rfl, iteF ?_⟩
    obtain ⟨wd, rest, ek, ew⟩ : ∃ wd rest, lkV k = .str wd :: rest ∧ (wd = "list" ↔ isLs k = true) := by
      cases k with
      | rd p => exact ⟨_, _, rfl, fun z => absurd z (by decide +kernel), fun z => by cases z⟩
      | ls p => exact ⟨_, _, rfl, fun _ => rfl, fun _ => rfl⟩
      | se n => exact ⟨_, _, rfl, fun z => absurd z (by decide +kernel), fun z => by cases z⟩
      | tl => exact ⟨_, _, rfl, fun z => absurd z (by decide +kernel), fun z => by cases z⟩
    have hu2 := hu
    rw [ek] at hu2
    cases hk : isLs k with
    | false =>
      have wl : wd ≠ "list" := fun z => by
        rw [ew.mp z] at hk
        cases hk
      refine ⟨_, rfl, u, _, 0, _, rfl, rfl, SqT.of hu2, atI_nat (j := 0) rfl, rfl, ?_⟩
      rw [eq_str wl]
      refine ⟨_, rfl, iteT ?_⟩
      refine ⟨fun σ H' => σ = [some (.ref u), some (.str x), some (.bl (btw x "\"" "\"")), none, none, none, none] ∧ Same H H', ?_, ?_⟩
      · refine ⟨_, rfl, x, rfl, by omega, _, _, rfl, rfl, _, rfl, ?_⟩
        by_cases h1 : 1 < x.length
        · rw [decide_eq_true (show (1 : Int) < (x.length : Int) by omega)]
          obtain ⟨c, r, ec⟩ : ∃ c r, tl x = c :: r := by
            cases e : tl x with
            | nil =>
              rw [len_tl, e] at h1
              cases h1
            | cons c r => exact ⟨c, r, rfl⟩
          obtain ⟨q, d, ed⟩ : ∃ q d, tl x = q ++ [d] := by
            rcases ends_of x with e | e
            · rw [e] at ec
              cases ec
            · exact e
          have eb : btw x "\"" "\"" = (decide (c = 34) && decide (d = 34)) := by
            rw [q_mk.1]
            exact btw_ends h1 ec ed 34 34
          have a1 : atI x.cps.toList 0 = some c := by
            show atI (tl x) ((0 : Nat) : Int) = some c
            rw [ec]
            exact atI_nat (j := 0) rfl
          have a2 : atI x.cps.toList (-1) = some d := by
            show atI (tl x) (-1) = some d
            rw [ed]
            exact atI_last _ _
          have sg : ∀ c : Nat, decide (V.str ⟨#[c]⟩ = V.str "\"") = decide (c = 34) := fun c => by
            rw [q_mk.1]
            exact sign_eq c 34
          refine iteT ⟨_, rfl, x, 0, c, rfl, rfl, by omega, a1, rfl, ?_⟩
          rw [sg]
          refine ⟨_, rfl, ?_⟩
          rw [eb]
          by_cases c1 : c = 34
          · refine iteY c1 ⟨_, rfl, 1, rfl, x, -1, d, rfl, rfl, by omega, a2, rfl, ?_⟩
            rw [sg, decide_eq_true c1, Bool.true_and]
            exact ⟨rfl, Same.refl _⟩
          · rw [decide_eq_false c1, Bool.false_and]
            exact iteF ⟨rfl, Same.refl _⟩
        · rw [decide_eq_false (show ¬ (1 : Int) < (x.length : Int) by omega)]
          have eb : btw x "\"" "\"" = false := by
            unfold btw
            rw [decide_eq_false h1, Bool.false_and]
          rw [eb]
          exact iteF ⟨rfl, Same.refl _⟩
      rintro _ H2 ⟨rfl, s2⟩
      cases eb : btw x "\"" "\"" with
      | false =>
        rw [ansM_txN hk e1 eb] at fin
        exact ⟨_, rfl, _, rfl, iteF (fin _ _ s2 rfl)⟩
      | true =>
        have ep : paM x = some (.tx (insT x)) := by
          unfold paM
          rw [if_neg e1, if_pos eb]
        have ex := paM_tx_ex ep
        have n10 : 10 ∉ tl (insT x) := fun m => lb.nn (ins_mem _ m)
        have zl : (insT x).length ≤ 1000 := by
          have := ins_len x
          omega
        have ea : ansM k x = some (.tx (insT x)) := by
          have := ansM_tx (k := k) n10 zl (lb.okz ins_mem)
          rw [← ex, hk] at this
          exact this
        rw [ea] at fin
        exact ⟨_, rfl, _, rfl, iteT ⟨_, rfl, 1, rfl, 1, rfl, -1, rfl, x, rfl, by omega, by show 1 ≤ sizeLine; decide, fun t ht => fin _ _ (s2.trans (same_mk ht)) ⟨t, _, rfl, upd_same, rfl⟩⟩⟩
    | true =>
      obtain ⟨p, rfl⟩ : ∃ p, k = .ls p := by
        cases k with
        | ls p => exact ⟨p, rfl⟩
        | rd p => cases hk
        | se n => cases hk
        | tl => cases hk
      have hu3 : H u = some (.tup [.str "list", .str (js p)]) := hu
      refine ⟨_, rfl, u, _, 0, _, rfl, rfl, SqT.of hu3, atI_nat (j := 0) rfl, rfl, ?_⟩
      rw [eq_strT]
      refine ⟨_, rfl, iteF ?_⟩
      have f1 : decide (V.str (cutS x none (some 1)) = V.str "(") = Txt.startswith x "(" := by rw [q_mk.2.1]; exact first_eq x 40
      have f2 : decide (V.str (cutS x (some (-1)) none) = V.str ")") = Txt.endswith x ")" := by rw [q_mk.2.2.1]; exact last_eq x 41
      have bp := btw_par x
      refine ⟨_, rfl, 1, rfl, x, rfl, by omega, rfl, ?_⟩
      have none' : btw x "(" ")" = false → x ≠ "()" ∧ ansM (.ls p) x = none := fun e => by
        refine ⟨fun z => ?_, ansM_lsN e1 e⟩
        rw [z] at e
        revert e
        decide +kernel
      cases hA : Txt.startswith x "(" with
      | false =>
        rw [hA, Bool.false_and] at bp
        obtain ⟨n1, n2⟩ := none' bp
        rw [n2] at fin
        rw [f1, hA]
        refine ⟨_, rfl, iteT ⟨_, rfl, rfl, ?_⟩⟩
        rw [eq_str n1]
        exact ⟨_, rfl, iteF (fin _ _ (Same.refl _) rfl)⟩
      | true =>
        rw [hA, Bool.true_and] at bp
        rw [f1, hA]
        refine ⟨_, rfl, iteF ⟨_, rfl, 1, rfl, -1, rfl, x, rfl, by omega, rfl, ?_⟩⟩
        cases hB : Txt.endswith x ")" with
        | false =>
          rw [hB] at bp
          obtain ⟨n1, n2⟩ := none' bp
          rw [n2] at fin
          rw [f2, hB]
          refine ⟨_, rfl, iteT ⟨_, rfl, rfl, ?_⟩⟩
          rw [eq_str n1]
          exact ⟨_, rfl, iteF (fin _ _ (Same.refl _) rfl)⟩
        | true =>
          rw [hB] at bp
          rw [f2, hB]
          refine ⟨_, rfl, iteF ⟨_, rfl, rfl, ?_⟩⟩
          have ep := paM_par bp
          by_cases e2 : x = "()"
          · subst e2
            rw [par_lits.2.2.1] at ep
            rw [eq_strT]
            refine ⟨_, rfl, iteT ⟨_, rfl, rfl, ?_⟩⟩
            rw [eq_strT]
            refine ⟨_, rfl, iteT ⟨_, rfl, u, _, 1, _, rfl, rfl, SqT.of hu3, atI_nat (j := 1) rfl, rfl, ?_⟩⟩
            by_cases p0 : p = []
            · obtain ⟨l, q1, _, _, q2⟩ := ansM_rowY (p := p) ep (by decide) ⟨(fun z hz => by cases hz), List.Pairwise.nil⟩ (.inr p0)
              have l0 : l = [] := by
                cases l with
                | nil => rfl
                | cons a b => cases q1
              rw [q2, l0] at fin
              rw [show decide (V.str (js p) = V.str "") = true from decide_eq_true (by rw [p0]; rfl)]
              refine ⟨_, rfl, iteT ⟨by show 0 ≤ sizeLine; decide, fun a ha => ⟨by show 1 ≤ sizeLine; decide, fun t ht => ?_⟩⟩⟩
              have sa := same_mk (o := .tup []) ha
              have st := same_mk (o := .tup [.ref a]) ht
              exact fin _ _ (sa.trans st) ⟨t, _, rfl, upd_same, a, rfl, st _ _ upd_same⟩
            · rw [ansM_rowB ep (.inr ⟨rfl, p0⟩)] at fin
              rw [eq_str (js_ne gk.1.1 p0)]
              exact ⟨_, rfl, iteF (fin _ _ (Same.refl _) rfl)⟩
          rw [eq_str e2]
          refine ⟨_, rfl, iteF ?_⟩
          have i0 := ins_par bp e2
          have il := ins_len x
          obtain ⟨rl, rz⟩ := row_len lb.ln lb.bl
          have hrow : rowT x = Txt.split (insT x) " " := if_neg i0
          have r0 : rowT x ≠ [] := by
            obtain ⟨ps, q1, q2, _⟩ := parted " " 32 sp_tl.2.2.1 sl_cps.2 (insT x)
            rw [hrow, q1]
            exact q2
          refine ⟨_, rfl, 1, rfl, 1, rfl, -1, rfl, x, rfl, by omega, rfl, insT x, " ", rfl, rfl, by decide +kernel, by omega, fun E1 hE1 => ?_⟩
          rw [← hrow]
          have s1 := same_mk (o := .lst ((rowT x).map V.str)) hE1
          have g1 := upd_same (H := H) (a := E1) (o := .lst ((rowT x).map V.str))
          generalize upd H E1 (.lst ((rowT x).map V.str)) = H1 at s1 g1 ⊢
          refine ⟨_, rfl, E1, rfl, ⟨_, SqL.of g1⟩, fun D hD => ?_⟩
          refine lc_mapL (rowT x) V.str (fun z => .str (NmR z)) (by omega) hD (SqL.of g1) ?_ ?_
          · intro z hz H2 s2 Q1 k1
            have zl := rz z hz
            have fz : decide (V.str (cutS z (some (-1)) none) = V.str "/") = Txt.endswith z "/" := by rw [sl_mk]; exact last_eq z 47
            have nz := nmR_cut z
            refine ⟨_, rfl, 1, rfl, -1, rfl, z, rfl, by omega, rfl, ?_⟩
            rw [fz]
            cases hz2 : Txt.endswith z "/" with
            | true =>
              rw [hz2, if_pos rfl] at nz
              refine ⟨_, rfl, iteT ⟨_, rfl, 1, rfl, -1, rfl, z, rfl, by omega, ?_⟩⟩
              rw [nz]
              exact k1 H2 (Same.refl H2)
            | false =>
              rw [hz2, if_neg (by decide)] at nz
              rw [← nz] at k1
              exact ⟨_, rfl, iteF ⟨_, rfl, k1 H2 (Same.refl H2)⟩⟩
          · intro H2 s2 hD2
            have s12 := s1.trans s2
            refine ⟨fun σ H' => σ = [some (.ref u), some (.str x), none, some (.ref E1), some (.ref D), some (.bl (decide (RowOk (rowT x)))), none] ∧ Same H2 H', ?_, ?_⟩
            · have hnm : H2 D = some (.lst (((rowT x).map NmR).map V.str)) := by
                rw [hD2, List.map_map]
                rfl
              have nl : ((rowT x).map NmR).length ≤ 36 := by rw [List.length_map]; exact rl
              have nz : ∀ y ∈ (rowT x).map NmR, Sh y ∧ Okz y := fun y hy => by
                obtain ⟨z, hz, rfl⟩ := List.mem_map.mp hy
                refine ⟨Nat.le_trans (len_rms z) (Nat.le_trans (rz z hz) (by decide)), lb.okz fun c hc => ?_⟩
                obtain ⟨b, ez⟩ := rms_or z
                have c1 : c ∈ tl z := by
                  rw [ez, tl_ent]
                  exact List.mem_append_left _ hc
                obtain ⟨ps, q1, _, _, _, q2⟩ := parted " " 32 sp_tl.2.2.1 sl_cps.2 (insT x)
                rw [hrow, q1] at hz
                exact ins_mem c ((q2 z hz).2.2 c c1)
              generalize enm : (rowT x).map NmR = nms at hnm nl nz
              refine ⟨_, rfl, D, rfl, ⟨_, SqL.of hnm⟩, fun D3 hD3 => ?_⟩
              refine lc_mapL nms V.str (fun y => .bl (decide (IsNm y))) (by omega) hD3 (SqL.of hnm) ?_ ?_
              · intro y hy H3 s3 Q1 k1
                exact ⟨_, rfl, y, rfl, (nz y hy).1, k1⟩
              · intro H3 s3 hD4
                dsimp only [tNil]
                refine all_of nms (fun y => decide (IsNm y)) hD4 ?_
                refine ⟨_, rfl, ?_⟩
                by_cases al : (nms.all fun y => decide (IsNm y)) = true
                · rw [al]
                  refine iteT ⟨_, rfl, _, rfl, D, nms, rfl, SqL.of (s3 _ _ hnm), by omega, fun S1 Sf n hS mem nle => ⟨S1, Sf, n, rfl, upd_same, by omega, fun ys Y ymem ynd yl ysrt hY => ?_⟩⟩
                  have s4 := same_mk (o := SX.SetTO w S1 Sf n) hS
                  have s5 := same_mk (o := .lst (ys.map V.str)) hY
                  have ym : ∀ y, y ∈ ys ↔ y ∈ nms := fun y => (ymem y).trans (mem y)
                  refine ⟨.list (nms.map .str), .list (ys.map .str), .lst (SqL.of (s5 _ _ (s4 _ _ (s3 _ _ hnm)))) (dp_strs nms), .lst (SqL.of upd_same) (dp_strs ys), shaped_strsL _ fun z hz => (nz z hz).2, shaped_strsL _ fun z hz => (nz z ((ym z).mp hz)).2, ?_⟩
                  rw [eqv_listS]
                  have ee : decide (nms = ys) = decide (RowOk (rowT x)) := by
                    rw [decide_eq_decide, asc_set ym ynd ysrt]
                    unfold RowOk
                    rw [enm]
                    constructor
                    · refine fun a => ⟨fun z hz => ?_, a⟩
                      have : NmR z ∈ nms := by rw [← enm]; exact List.mem_map_of_mem hz
                      exact of_decide_eq_true (List.all_eq_true.mp al _ this)
                    · exact fun a => a.2
                  rw [ee]
                  exact ⟨rfl, (s3.trans s4).trans s5⟩
                · have no : ¬ RowOk (rowT x) := fun c => al (List.all_eq_true.mpr fun y hy => by
                    rw [← enm] at hy
                    obtain ⟨z, hz, rfl⟩ := List.mem_map.mp hy
                    exact decide_eq_true (c.1 z hz))
                  rw [Bool.not_eq_true] at al
                  rw [al, decide_eq_false no]
                  exact iteF ⟨rfl, s3⟩
            · rintro _ H3 ⟨rfl, s3⟩
              have s13 := s12.trans s3
              by_cases c : RowOk (rowT x)
              · obtain ⟨l, q1, q2, _, q3⟩ := ansM_rowY (p := p) ep (by omega) c (.inl r0)
                rw [q3] at fin
                refine ⟨_, rfl, _, rfl, iteY c ⟨_, rfl, E1, _, rfl, .inl ⟨SqL.of ((s2.trans s3) _ _ g1), fun t ht => ⟨by show 1 ≤ sizeLine; decide, fun t2 ht2 => ?_⟩⟩⟩⟩
                have s4 := same_mk (o := .tup ((rowT x).map V.str)) ht
                have s5 := same_mk (o := .tup [.ref t]) ht2
                refine fin _ _ ((s13.trans s4).trans s5) ⟨t2, _, rfl, upd_same, t, rfl, ?_⟩
                rw [ents_V, ← q1]
                exact s5 _ _ upd_same
              · rw [ansM_rowB ep (.inl c)] at fin
                exact ⟨_, rfl, _, rfl, iteN c (fin _ _ s13 rfl)⟩
end
end K3

set_option maxHeartbeats 3900000
namespace OW
open PySem PySem.Spec PyProof.Rows L2 PySem.F
section
variable {X : Cx} {k : Nat} {C f : Addr} {fd : FuncData} {ps : List Str} {sp : Sp} {CX : CXT} {E : XK}
end
end OW

set_option maxHeartbeats 3900000
namespace K3
open PySem PySem.Spec PyProof.Rows L2 TL
open C8 (pss_cut tCut pe_gc)
open CB XW LE LR
theorem cut_init (xs : List V) (x : V) : cutV (xs ++ [x]) none (some (-1)) = xs := by
  have e1 : HT.sIx (xs ++ [x]).length (xs ++ [x]).length (some (-1)) = xs.length := by
    show (if (-1 : Int) < 0 then ((-1 : Int) + ((xs ++ [x]).length : Int)).toNat else min (-1 : Int).toNat (xs ++ [x]).length) = _
    rw [if_pos (by decide), List.length_append, List.length_singleton]
    omega
  unfold cutV
  rw [e1]
  show (((xs ++ [x]).drop 0).take (xs.length - 0)) = xs
  rw [List.drop_zero, Nat.sub_zero, List.take_append_of_le_length (Nat.le_refl _), List.take_length]
theorem mkS2 {H : Hp} {o dx : Addr} {u : HO} (ho : H o = none) (hdx : H dx = none) : Same H (upd (upd H dx (.own o)) o u) := fun b q hb => by
  rw [upd_ne (fun e => by rw [e, ho] at hb; cases hb), upd_ne (fun e => by rw [e, hdx] at hb; cases hb)]
  exact hb
theorem sis_sgs {H : Hp} {D : Addr} {sg : List Sg} (h : SisL H D sg) (ok : ∀ s ∈ sg, SiOk' s) : ∃ xs, H D = some (.lst xs) ∧ Sgs H xs (sg.map some) := by
  obtain ⟨vs, h1, h2, h3⟩ := h
  refine ⟨vs, h1, by rw [List.length_map]; exact h2, fun i x o hx ho => ?_⟩
  rw [List.getElem?_map] at ho
  obtain ⟨s, hs, rfl⟩ := Option.map_eq_some_iff.mp ho
  exact ⟨(h3 i x s hx hs).in, ok s (List.mem_of_getElem? hs)⟩
theorem SgG.si {s : Sg} (g : SgG s) : SiOk' s := ⟨⟨g.1.1, g.2.1⟩, g.1.1.w, g.2.2.2⟩
def MkR (CR CA : Addr) (H : Hp) (o : Addr) (sg : List Sg) (y : Str) (Q : VK) (E : XK) : Prop := ∀ oo, FstAp sg oo → (oo = none → ∀ H2, Same H H2 → RnAt CR H2 o sg y → Q .non H2) ∧ ∀ p : Nat × Nat, oo = some p → EWant2 H "first" "second" CA (.int (p.1 : Int)) (.int (p.2 : Int)) E
theorem mk_runX {CR CS CA : Addr} {H : Hp} {v : V} {xs : List V} {sg : List Sg} {y : Str} (hv : RowAt H v xs) (hs : Sgs H xs (sg.map some)) (nd : (sg.map (·.1)).Nodup) (ln : sg.length ≤ 1000) {o dx : Addr} (ho : H o = none) (hdx : H dx = none) {Q : VK} {E : XK} (k : MkR CR CA H o sg y Q E) :
    spRIni CR CS CA [.ref o, v, .str y] (upd (upd H dx (.own o)) o (.ins CR dx [])) Q E := by
  have sM := mkS2 ho hdx (u := .ins CR dx [])
  refine ⟨o, dx, v, xs, sg.map some, y, rfl, upd_same, hv.up sM, ⟨hs.1, fun i x o h1 h2 => (hs.2 i x o h1 h2).up sM⟩, by rw [List.length_map]; omega, .inr ⟨sg, rfl, nd, fun oo fa => ⟨fun e H2 kp rn => ?_, fun p e => ((k oo fa).2 p e).up sM⟩⟩⟩
  exact (k oo fa).1 e H2 (fun b q hb => kp b q (sM _ _ hb) fun e => by rw [e, ho] at hb; cases hb) rn
theorem goM_none {l : Str} {r : List Str} {acc : List Sg} (h : telM l = none) : goM (l :: r) acc = .inl acc.length := by
  show (match telM l with | none => Sum.inl acc.length | some s => if s.1 ∈ acc.map (fun x : Sg => x.1) then .inl acc.length else goM r (acc ++ [s])) = _
  rw [h]
theorem goM_rep {l : Str} {r : List Str} {acc : List Sg} {s : Sg} (h : telM l = some s) (m : s.1 ∈ acc.map (·.1)) : goM (l :: r) acc = .inl acc.length := by
  show (match telM l with | none => Sum.inl acc.length | some s => if s.1 ∈ acc.map (fun x : Sg => x.1) then .inl acc.length else goM r (acc ++ [s])) = _
  rw [h]
  exact if_pos m
theorem goM_step {l : Str} {r : List Str} {acc : List Sg} {s : Sg} (h : telM l = some s) (m : ¬ s.1 ∈ acc.map (·.1)) : goM (l :: r) acc = goM r (acc ++ [s]) := by
  show (match telM l with | none => Sum.inl acc.length | some s => if s.1 ∈ acc.map (fun x : Sg => x.1) then .inl acc.length else goM r (acc ++ [s])) = _
  rw [h]
  exact if_neg m
structure RdR (CR CA CB : Addr) (H : Hp) (ls : List Str) (last : Str) (Q : VK) (E : XK) : Prop where
  bad : ∀ k, goM ls [] = .inl k → EWant H "index" CB (.int (k : Int)) E
  out : ∀ sg, goM ls [] = .inr sg → outM last = none → EWant H "index" CB (.int (sg.length : Int)) E
  run : ∀ sg y, goM ls [] = .inr sg → outM last = some y → ∀ oo, FstAp sg oo → (oo = none → ∀ o H', Same H H' → RnAt CR H' o sg y → Q (.ref o) H') ∧ ∀ p : Nat × Nat, oo = some p → EWant2 H "first" "second" CA (.int (p.1 : Int)) (.int (p.2 : Int)) E
def spRdX (CR CA CB : Addr) : Sp := fun vs H Q E => ∃ t ls last, vs = [.str t] ∧ Txt.split t "\n" = ls ++ [last] ∧ (∀ l ∈ ls ++ [last], Lb l) ∧ ls.length ≤ 100 ∧ t.length ≤ 900000 ∧ RdR CR CA CB H ls last Q E
abbrev sBLIni : Stmt := inClass (top 5) 0
abbrev BLine (K : PySem.W.Frag) (mg : Str → Option Value) (C f : Addr) : Prop := ECl K mg "BadLine" "index" C f
section
variable {P : Program} {w : World} {K : PySem.W.Frag} {mg : Str → Option Value} {base : Heap} {CR CS CA CBL fBL : Addr} {fdBL : FuncData}
theorem scBLIni : FnScope ["self", "index"] ["self", "index"] (defScope sBLIni) := ⟨rfl, rfl, rfl, by decide +kernel, rfl, by decide +kernel, by decide +kernel⟩
theorem ok_blini {f : Addr} {fd : FuncData} (F : Fun K "__init__" "BadLine.__init__" sBLIni f fd) (B : BLine K mg CBL fBL) : FnOk P w K mg base CX0 1 f fd ["self", "index"] (spEIni "index" CBL) := by
  refine F.ok scBLIni (fun vs H Q E h => ?_) (fun cdv A outer s H vs Q E hr h => ?_)
  · obtain ⟨a, x, rfl, _⟩ := h
    rfl
  · obtain ⟨a, x, rfl, ha, k⟩ := h
    exact ⟨_, pss_one (ps_ost (pv 0) (pv 1) rfl), _, rfl, _, rfl, a, CBL, rfl, B.ox, B.no, .inl ⟨ha, fun dx hdx hne => k dx hdx hne⟩⟩
theorem scRd : FnScope ["text", "lines", "sights", "looks", "index", "line", "sight", "outcome"] ["text"] (defScope sRd) := ⟨rfl, rfl, rfl, by decide +kernel, rfl, by decide +kernel, by decide +kernel⟩
theorem ok_rdX {f fS fO fI : Addr} {fd fdS fdO fdI : FuncData} (F : Fun K "read_run" "read_run" sRd f fd) (T : TB mg) (R : RCl K mg CR) (BBL : BLine K mg CBL fBL) (bBBL : L2.Binds K fdBL ["self", "index"] []) (GBBL : FnOk P w K mg base CX0 1 fBL fdBL ["self", "index"] (spEIni "index" CBL)) (mkR : Mk K CR fI) (bRIni : L2.Binds K fdI ["self", "sights", "outcome"] []) (GRIni : FnOk P w K mg base (CX P w) 10 fI fdI ["self", "sights", "outcome"] (spRIni CR CS CA))
    (aSgIn : At K mg "sight_in" fS fdS ["line"]) (GSgIn : FnOk P w K mg base CX0 7 fS fdS ["line"] spSgInX) (aOuIn : At K mg "outcome_in" fO fdO ["line"]) (GOuIn : FnOk P w K mg base CX0 3 fO fdO ["line"] spOuInX) : FnOk P w K mg base (CX P w) 12 f fd ["text"] (spRdX CR CA CBL) := by
  refine F.okX scRd (fun vs H Q E h => ?_) (fun cdv A outer s H vs Q E hr h => ?_)
  · obtain ⟨t, ls, last, rfl, _⟩ := h
    rfl
  · obtain ⟨t, ls, last, rfl, hsp, hlb, ln, tl', fin⟩ := h
    have hu1 := hu_of hr
    have sz : 1000000 ≤ sizeLine := by decide
    refine ⟨_, pss_cons (ps_set (i := 1) scRd.nd rfl (Or.inl rfl) (pe_bm PySem.F.plainAttrs_str PySem.F.slot_str_split PySem.F.type_str_split mt_split (pv 0) (pa_cons pe_str pa_nil)))
            (pss_cons (ps_set (i := 2) scRd.nd rfl (Or.inl rfl) (pe_lst pa_nil))
            (pss_cons (ps_set (i := 3) scRd.nd rfl (Or.inl rfl) pe_dnewT)
            (pss_cons (ps_for (passes_of rfl) rfl (pi_enum rfl T.enumerate (pa_cons (pe_slice sl_list (pv 1) po_none (po_some (pe_un un_neg pe_int))) pa_nil)) (pg_tup rfl (pgs_cons (pg_name (i := 4) scRd.nd rfl (Or.inl rfl)) (pgs_cons (pg_name (i := 5) scRd.nd rfl (Or.inl rfl)) pgs_nil))) (pss_cons (ps_set (i := 6) scRd.nd rfl (Or.inl rfl) (pe_call GSgIn (hr.mono (by decide)) rfl aSgIn.m aSgIn.k aSgIn.b .nil pass0 (pa_cons (pv 5) pa_nil)))
            (pss_cons (ps_if (PW.pt (pw_or (pt_cmp (pc_isN (pv 6))) (pw_or1 (pt_cmp (pc_din hu1 (pe_ix ix_tup (pv 6) pe_int (fun _ _ => rfl)) (pv 3)))))) (pss_one (ps_raise rfl (takes_of rfl rfl rfl rfl) (pmk_oex BBL.ox BBL.iC BBL.tI GBBL (hr.mono (by decide)) bBBL .nil pass0 rfl BBL.mg (pa_cons (pv 4) pa_nil)))) (pss_nil))
            (pss_cons (ps_dput hu1 (pv 3) (pe_ix ix_tup (pv 6) pe_int (fun _ _ => rfl)) pe_bl rfl)
            (pss_one (ps_expr (pe_bm PySem.F.plainAttrs_list PySem.F.slot_list_append PySem.F.type_list_append mt_append (pv 2) (pa_cons (pv 6) pa_nil))))))))
            (pss_cons (ps_set (i := 7) scRd.nd rfl (Or.inl rfl) (pe_call GOuIn (hr.mono (by decide)) rfl aOuIn.m aOuIn.k aOuIn.b .nil pass0 (pa_cons (pe_ix ix_list (pv 1) (pe_un un_neg pe_int) (fun _ _ => rfl)) pa_nil)))
            (pss_cons (ps_if (pt_cmp (pc_isN (pv 7))) (pss_one (ps_raise rfl (takes_of rfl rfl rfl rfl) (pmk_oex BBL.ox BBL.iC BBL.tI GBBL (hr.mono (by decide)) bBBL .nil pass0 rfl BBL.mg (pa_cons (pe_callB call_len_seq (by rfl) T.len PySem.boot_len (pa_cons (pv 2) pa_nil)) pa_nil)))) (pss_nil))
            (pss_one (ps_ret (_root_.MS.pe_makeS mkR GRIni (hr.mono (by decide)) rfl R.mg bRIni (fun σ => passAt (takes_of rfl rfl rfl rfl) σ) (pa_cons (pv 2) (pa_cons (pv 7) pa_nil)))))))))), ?_⟩
    refine ⟨_, rfl, rfl, t, "\n", rfl, rfl, by decide +kernel, by omega, fun L hL => ?_⟩
    rw [hsp]
    have s1 := same_mk (o := .lst ((ls ++ [last]).map V.str)) hL
    have hL1 := upd_same (H := H) (a := L) (o := .lst ((ls ++ [last]).map V.str))
    generalize upd H L (.lst ((ls ++ [last]).map V.str)) = H1 at s1 hL1 ⊢
    refine ⟨by exact Nat.zero_le _, fun p hp => fun d hd => ?_⟩
    have t1 := same_mk (o := .lst []) hp
    have t2 := same_mk (o := .dT []) hd
    have t12 := t1.trans t2
    have hp2 := t2 _ _ (upd_same (H := H1) (a := p) (o := .lst []))
    have hd2 := upd_same (H := upd H1 p (.lst [])) (a := d) (o := .dT [])
    have pd : p ≠ d := fun e => by rw [← e, upd_same] at hd; cases hd
    have hd0 : H1 d = none := by rw [upd_ne (Ne.symm pd)] at hd; exact hd
    generalize upd (upd H1 p (.lst [])) d (.dT []) = H2 at t12 hp2 hd2 ⊢
    have eL : (ls ++ [last]).map V.str = ls.map V.str ++ [.str last] := by
      rw [List.map_append]
      rfl
    rw [eL] at hL1
    refine ⟨_, rfl, 1, rfl, -1, rfl, L, _, rfl, SqL.of (t12 _ _ hL1), fun L2 hL2 => ?_⟩
    rw [cut_init]
    have t3 := same_mk (o := .lst (ls.map V.str)) hL2
    have hL3 := upd_same (H := H2) (a := L2) (o := .lst (ls.map V.str))
    have hp3 := t3 _ _ hp2
    have hd3 := t3 _ _ hd2
    have nL2 : L2 ≠ p := fun e => by rw [e, hp2] at hL2; cases hL2
    have t13 := t12.trans t3
    generalize upd H2 L2 (.lst (ls.map V.str)) = H3 at t3 t13 hL3 hp3 hd3 ⊢
    refine ⟨L2, _, rfl, SqL.of hL3, for_it (walk_enum (K := K) (a := L2) (xs := ls.map V.str)) (fun i σ H' => ∃ x4 x5 x6 vs kvs sg, σ = [some (.str t), some (.ref L), some (.ref p), some (.ref d), x4, x5, x6, none] ∧ Same H1 H' ∧ H' L2 = some (.lst (ls.map V.str)) ∧ H' p = some (.lst vs) ∧ vs.length = i ∧ sg.length = i ∧ (∀ (j : Nat) (v : V) (s : Sg), vs[j]? = some v → sg[j]? = some s → SiAt H' v s) ∧ H' d = some (.dT kvs) ∧ kvs.length ≤ i ∧ (∀ q, LkW q → ((valV kvs (lkey q)).isSome = true ↔ q ∈ sg.map (·.1))) ∧ goM ls [] = goM (ls.drop i) sg ∧ (∀ s ∈ sg, SgG s) ∧ (sg.map (·.1)).Nodup)
      ⟨_, _, _, [], [], [], rfl, t13, hL3, hp3, rfl, rfl, (fun j v s h => by simp at h), hd3, Nat.le_refl _, (fun q _ => ⟨(fun z => by cases z), fun z => by cases z⟩), rfl, (fun s hs => by cases hs), List.nodup_nil⟩ (fun i σ H' _ q => by obtain ⟨_, _, _, _, _, _, _, _, h, _⟩ := q; exact SqL.of h) ?_ ?_⟩
    · rintro i _ _ H4 H4' hi ⟨x4, x5, x6, vs, kvs, sg, rfl, s4, hL4, hp4, vl, gl, hvs, hd4, kl, keys, hgo, hgd, hnd⟩ ⟨T3, y0, y1, rfl, hT, rfl, hy0, hy1⟩
      cases hy0
      rw [List.length_map] at hi
      have hsi : ls[i]? = some ls[i] := List.getElem?_eq_getElem hi
      have hy1 : (ls.map V.str)[i]? = some y1 := hy1
      rw [List.getElem?_map, hsi] at hy1
      cases hy1
      have edr : ls.drop i = ls[i] :: ls.drop (i + 1) := List.drop_eq_getElem_cons hi
      rw [edr] at hgo
      have hlbi := hlb ls[i] (List.mem_append_left _ (List.getElem_mem hi))
      generalize ls[i] = l at *
      have sT := same_mk (o := .tup [.int (i : Nat), .str l]) hT
      refine ⟨T3, _, rfl, SqT.of upd_same, rfl, _, _, rfl, _, _, rfl, rfl, ?_⟩
      refine ⟨_, rfl, l, rfl, hlbi, fun v H5 s5 sat => ?_⟩
      have s45 := sT.trans s5
      have s15 := s4.trans s45
      have raise : goM ls [] = .inl i → ∀ (H6 : Hp), Same H5 H6 → ∀ b, H6 b = none → ∀ dx, upd H6 b (exo b CBL none) dx = none → dx ≠ b → ∃ (d : Addr) (fs : List (Str × V)), upd (upd (upd H6 b (exo b CBL none)) dx (exd dx [(("index" : Str), V.int (i : Nat))])) b (exo b CBL (some dx)) b = some (exo b CBL (some d)) ∧
          upd (upd (upd H6 b (exo b CBL none)) dx (exd dx [(("index" : Str), V.int (i : Nat))])) b (exo b CBL (some dx)) d = some (exd d fs) ∧ H6 d = none ∧ E (.ref CBL) (some d) (upd (del (upd (upd (upd H6 b (exo b CBL none)) dx (exd dx [(("index" : Str), V.int (i : Nat))])) b (exo b CBL (some dx))) b) d (.xd fs)) := fun e H6 s6 b hb dx hdx hne =>
        eraise_at ((s1.trans s15).trans s6) hb hdx hne (fin.bad i e)
      cases et : telM l with
      | none =>
        rw [et] at sat
        obtain rfl : v = .non := sat
        rw [goM_none et, gl] at hgo
        exact ⟨_, rfl, _, rfl, iteT ⟨_, rfl, by show 1 ≤ 1000; decide, fun b hb => ⟨b, _, rfl, upd_same, fun dx hdx hne => ⟨rfl, raise hgo H5 (Same.refl _) b hb dx hdx hne⟩⟩⟩⟩
      | some s0 =>
        rw [et] at sat
        have sat : SiAt H5 v s0 := sat
        obtain ⟨gs, el⟩ := telM_some et
        obtain ⟨t0, u, va, rfl, ht, hu, ha⟩ := id sat
        have ku : H5 u = some (.tup ((lkey s0.1).map kV)) := by rw [lkey_V]; exact hu
        have hd5 := s45 _ _ hd4
        have hp5 := s45 _ _ hp4
        have hL5 := s45 _ _ hL4
        have hw : LkW s0.1 := gs.1.1.w
        refine ⟨_, rfl, _, rfl, iteN (by intro z; cases z) ⟨_, rfl, t0, _, 0, _, rfl, rfl, SqT.of ht, atI_nat (j := 0) rfl, _, rfl, d, _, rfl, DGet.t hd5 ku, ?_⟩⟩
        by_cases rep : s0.1 ∈ sg.map (·.1)
        · rw [(keys s0.1 hw).mpr rep]
          rw [goM_rep et rep, gl] at hgo
          exact ⟨_, rfl, iteT ⟨_, rfl, by show 1 ≤ 1000; decide, fun b hb => ⟨b, _, rfl, upd_same, fun dx hdx hne => ⟨rfl, raise hgo H5 (Same.refl _) b hb dx hdx hne⟩⟩⟩⟩
        have nk : (valV kvs (lkey s0.1)).isSome = false := by
          rw [← Bool.not_eq_true]
          exact fun z => rep ((keys s0.1 hw).mp z)
        rw [goM_step et rep] at hgo
        rw [nk]
        refine ⟨_, rfl, iteF ⟨_, rfl, _, rfl, t0, _, 0, _, rfl, rfl, SqT.of ht, atI_nat (j := 0) rfl, d, _, rfl, DPut.t hd5 ku ?_, ?_⟩⟩
        · exact Nat.lt_of_le_of_lt (show kvs.length ≤ 1000 by omega) (by decide)
        have ts6 : TupS H5 (upd H5 d (.dT (putK kvs (lkey s0.1) (.bl true)))) := tupS_put hd5 fun xs z => by cases z
        have hp6 : upd H5 d (.dT (putK kvs (lkey s0.1) (.bl true))) p = some (.lst vs) := by rw [upd_ne pd]; exact hp5
        have hL6 : upd H5 d (.dT (putK kvs (lkey s0.1) (.bl true))) L2 = some (.lst (ls.map V.str)) := by rw [upd_ne (ne_of hL5 hd5 (by intro z; cases z))]; exact hL5
        have hd6 := upd_same (H := H5) (a := d) (o := .dT (putK kvs (lkey s0.1) (.bl true)))
        have s6 : Same H1 (upd H5 d (.dT (putK kvs (lkey s0.1) (.bl true)))) := same_ch s15 hd0
        generalize upd H5 d (.dT (putK kvs (lkey s0.1) (.bl true))) = H6 at ts6 hp6 hd6 hL6 s6 ⊢
        have ts7 : TupS H5 (upd H6 p (.lst (vs ++ [.ref t0]))) := TupS.trans ts6 (tupS_put hp6 fun xs z => by cases z)
        refine ⟨_, rfl, .inl ⟨rfl, _, SqL.of hp6⟩, _, rfl, p, _, _, rfl, rfl, hp6, ?_, _, _, _, vs ++ [.ref t0], putK kvs (lkey s0.1) (.bl true), sg ++ [s0], rfl, same_ch s6 hp, by rw [upd_ne nL2]; exact hL6, upd_same, by rw [List.length_append, vl]; rfl, by rw [List.length_append, gl]; rfl, fun j v s h1 h2 => ?_, ?_, ?_, fun q hq => ?_, hgo, fun x hx => ?_, ?_⟩
        · exact Nat.lt_of_lt_of_le (show vs.length < 1001 by omega) (by decide)
        · rcases Nat.lt_or_ge j vs.length with h3 | h3
          · rw [List.getElem?_append_left h3] at h1
            rw [List.getElem?_append_left (by omega)] at h2
            exact ((hvs j v s h1 h2).up s45).tup ts7
          · rw [List.getElem?_append_right h3] at h1
            have j0 : j - vs.length = 0 := by
              have := (List.getElem?_eq_some_iff.mp h1).1
              simp only [List.length_cons, List.length_nil] at this
              omega
            rw [j0] at h1
            rw [List.getElem?_append_right (by omega), show j - sg.length = 0 by omega] at h2
            cases h1
            cases h2
            exact sat.tup ts7
        · rw [upd_ne (Ne.symm pd)]
          exact hd6
        · have := length_putK kvs (lkey s0.1) (.bl true)
          omega
        · rw [valV_put, List.map_append, List.mem_append, List.map_singleton, List.mem_singleton]
          by_cases e : q = s0.1
          · subst e
            rw [if_pos rfl]
            exact ⟨fun _ => .inr rfl, fun _ => rfl⟩
          · rw [if_neg fun z => e ((lkey_inj hq hw).mp z), keys q hq]
            exact ⟨.inl, fun z => z.resolve_right e⟩
        · rcases List.mem_append.mp hx with hx | hx
          · exact hgd x hx
          · rw [List.mem_singleton.mp hx]
            exact gs
        · rw [List.map_append, List.map_singleton]
          refine List.nodup_append.mpr ⟨hnd, List.pairwise_singleton _ _, fun a ha b hb e => rep ?_⟩
          rw [List.mem_singleton] at hb
          rw [← hb, ← e]
          exact ha
    · rintro _ H4 ⟨x4, x5, x6, vs, kvs, sg, rfl, s4, hL4, hp4, vl, gl, hvs, hd4, kl, keys, hgo, hgd, hnd⟩
      rw [List.length_map] at vl gl hgo
      rw [List.drop_length] at hgo
      have hgo : goM ls [] = .inr sg := hgo
      have hL5 := s4 _ _ hL1
      have hS : SisL H4 p sg := ⟨vs, hp4, by rw [vl, gl], hvs⟩
      have lbl := hlb last (List.mem_append_right _ (List.mem_singleton.mpr rfl))
      refine ⟨_, rfl, 1, rfl, L, _, _, _, rfl, rfl, SqL.of hL5, atI_last _ _, last, rfl, lbl, fun H5 s5 => ?_⟩
      cases eo : outM last with
      | none =>
        have e1 : vs.length = sg.length := by rw [vl, gl]
        refine ⟨_, rfl, _, rfl, iteT ⟨_, rfl, p, _, rfl, .inl (SqL.of (s5 _ _ hp4)), by show 1 ≤ 1000; decide, fun b hb => ⟨b, _, rfl, upd_same, fun dx hdx hne => ⟨rfl, ?_⟩⟩⟩⟩
        rw [e1]
        exact eraise_at ((s1.trans s4).trans s5) hb hdx hne (fin.out sg hgo eo)
      | some y =>
        refine ⟨_, rfl, _, rfl, iteN (by intro z; cases z) ⟨_, rfl, _, rfl, fun o1 dx1 ho1 hdx1 hne1 => ?_⟩⟩
        obtain ⟨xs, hx, hs⟩ := sis_sgs (hS.up s5) fun s hs => (hgd s hs).si
        have s15 := (s1.trans s4).trans s5
        refine mk_runX ⟨p, rfl, .inr hx⟩ hs hnd (by omega) ho1 hdx1 fun oo fa => ⟨fun e H6 s6 rn => ⟨rfl, ?_⟩, fun p e => ((fin.run sg y hgo eo oo fa).2 p e).up s15⟩
        exact (fin.run sg y hgo eo oo fa).1 e o1 H6 (s15.trans s6) rn
end
end K3

set_option maxHeartbeats 3900000
namespace K3
open PySem PySem.Spec PyProof.Rows L2 TL
theorem sIx_pos (n d k : Nat) : HT.sIx n d (some (k : Int)) = min k n := HT.sIx_nat n d k
theorem tl_to (x : Str) (k : Nat) : tl (cutS x none (some (k : Int))) = (tl x).take k := by
  rw [tl_cutS, sIx_n, List.drop_zero, Nat.sub_zero, sIx_pos, len_tl, ← List.take_take, List.take_length]
theorem tl_from (x : Str) (k : Nat) : tl (cutS x (some (k : Int)) none) = (tl x).drop k := by
  rw [tl_cutS, sIx_n, sIx_pos, len_tl]
  rcases Nat.le_total k (tl x).length with h | h
  · rw [Nat.min_eq_left h]
    exact List.take_of_length_le (by rw [List.length_drop]; omega)
  · rw [Nat.min_eq_right h, List.drop_length, List.drop_eq_nil_of_le h, List.take_nil]
theorem end_tl : tl ("end : " : Str) = [101, 110, 100, 32, 58, 32] ∧ ("end" : Str) ++ " : " = "end : " := by decide +kernel
theorem six_of {l : Str} (h : cutS l none (some (6 : Int)) = "end : ") : l = "end" ++ " : " ++ cutS l (some (6 : Int)) none := by
  have h1 := congrArg tl h
  rw [show (6 : Int) = ((6 : Nat) : Int) from rfl, tl_to] at h1
  refine ext_tl ?_
  rw [end_tl.2, tl_append, ← h1, show (6 : Int) = ((6 : Nat) : Int) from rfl, tl_from, List.take_append_drop]
theorem endT_tl (y : Str) : tl (endT y) = [101, 110, 100, 32, 58, 32] ++ (34 :: (tl y ++ [34])) := by
  unfold endT
  rw [end_tl.2, tl_append, end_tl.1, tx_mk, tl_mkS]
theorem six_end (y : Str) : cutS (endT y) none (some (6 : Int)) = "end : " := ext_tl (by
  rw [show (6 : Int) = ((6 : Nat) : Int) from rfl, tl_to, endT_tl, end_tl.1]
  rfl)
theorem six_rest (y : Str) : cutS (endT y) (some (6 : Int)) none = anT (.tx y) := ext_tl (by
  rw [show (6 : Int) = ((6 : Nat) : Int) from rfl, tl_from, endT_tl, tx_mk, tl_mkS]
  rfl)
theorem seven_end (y : Str) : cutS (endT y) (some (7 : Int)) (some (-1)) = y := by
  refine ext_tl ?_
  rw [tl_cutS, show (7 : Int) = ((7 : Nat) : Int) from rfl, sIx_pos]
  have hl : (endT y).length = 8 + (tl y).length := by
    rw [len_tl, endT_tl]
    simp
    omega
  have e : HT.sIx (endT y).length (endT y).length (some (-1)) = (endT y).length - 1 := by
    unfold HT.sIx
    simp
    omega
  rw [e, hl, endT_tl, Nat.min_eq_left (by omega)]
  show List.take (8 + (tl y).length - 1 - 7) (tl y ++ [34]) = tl y
  rw [show 8 + (tl y).length - 1 - 7 = (tl y).length by omega, List.take_left]
theorem out_none {l : Str} (h : cutS l none (some (6 : Int)) ≠ "end : " ∨ ∀ z, paM (cutS l (some (6 : Int)) none) ≠ some (.tx z)) : outM l = none := by
  cases eo : outM l with
  | none => rfl
  | some y =>
    exfalso
    have el := outM_some eo
    rw [el, six_end, six_rest] at h
    rcases h with h | h
    · exact h rfl
    · exact h y (paM_tx y)
theorem out_some {l y : Str} (h : cutS l none (some (6 : Int)) = "end : ") (e : cutS l (some (6 : Int)) none = anT (.tx y)) (ln : l.length ≤ 1000) : l = endT y ∧ outM l = some y := by
  have el : l = endT y := by
    have := six_of h
    rw [e] at this
    exact this
  refine ⟨el, ?_⟩
  rw [el] at ln ⊢
  exact outM_of ln
end K3

set_option maxHeartbeats 3900000
namespace K3
open PySem PySem.Spec PyProof.Rows L2 TL
open C8 (pss_cut tCut pe_gc)
open CB XW LE LR
abbrev sLRead : Stmt := top 83
inductive Res
  | line (k : Nat)
  | told (sg : List Sg) (y : Str)
  | ap (p : Nat × Nat)
def resM (ls : List Str) (last : Str) : Res → Prop
  | .line k => goM ls [] = .inl k ∨ ∃ sg, goM ls [] = .inr sg ∧ outM last = none ∧ k = sg.length
  | .told sg y => goM ls [] = .inr sg ∧ outM last = some y ∧ FstAp sg none
  | .ap p => ∃ sg y, goM ls [] = .inr sg ∧ outM last = some y ∧ FstAp sg (some p)
theorem resM_det {ls : List Str} {last : Str} {r r' : Res} (h : resM ls last r) (h' : resM ls last r') : r = r' := by
  cases r with
  | line k =>
    rcases h with h | ⟨sg, h1, h2, rfl⟩
    · cases r' with
      | line k' =>
        rcases h' with h' | ⟨_, h', _⟩
        · rw [h] at h'
          cases h'
          rfl
        · rw [h] at h'
          cases h'
      | told sg' y' =>
        have := h'.1
        rw [h] at this
        cases this
      | ap p' =>
        obtain ⟨_, _, h', _⟩ := h'
        rw [h] at h'
        cases h'
    · cases r' with
      | line k' =>
        rcases h' with h' | ⟨_, h', _, rfl⟩
        · rw [h1] at h'
          cases h'
        · rw [h1] at h'
          cases h'
          rfl
      | told sg' y' =>
        have := h'.2.1
        rw [h2] at this
        cases this
      | ap p' =>
        obtain ⟨_, _, _, h', _⟩ := h'
        rw [h2] at h'
        cases h'
  | told sg y =>
    obtain ⟨h1, h2, h3⟩ := h
    cases r' with
    | line k' =>
      rcases h' with h' | ⟨_, _, h', _⟩
      · rw [h1] at h'
        cases h'
      · rw [h2] at h'
        cases h'
    | told sg' y' =>
      obtain ⟨g1, g2, _⟩ := h'
      rw [h1] at g1
      rw [h2] at g2
      cases g1
      cases g2
      rfl
    | ap p' =>
      obtain ⟨_, _, g1, _, g3⟩ := h'
      rw [h1] at g1
      cases g1
      cases h3.det g3
  | ap p =>
    obtain ⟨sg, y, h1, h2, h3⟩ := h
    cases r' with
    | line k' =>
      rcases h' with h' | ⟨_, _, h', _⟩
      · rw [h1] at h'
        cases h'
      · rw [h2] at h'
        cases h'
    | told sg' y' =>
      obtain ⟨g1, _, g3⟩ := h'
      rw [h1] at g1
      cases g1
      cases h3.det g3
    | ap p' =>
      obtain ⟨_, _, g1, _, g3⟩ := h'
      rw [h1] at g1
      cases g1
      cases h3.det g3
      rfl
def ResAt (H : Hp) (v : V) : Res → Prop
  | .line k => ∃ t, v = .ref t ∧ H t = some (.tup [.str "line", .int (k : Int)])
  | .told sg y => ∃ t u q, v = .ref t ∧ H t = some (.tup [.str "told", .ref u]) ∧ H u = some (.tup [.ref q, .str y]) ∧ SisT H q sg
  | .ap p => ∃ t u, v = .ref t ∧ H t = some (.tup [.str "apart", .ref u]) ∧ H u = some (.tup [.int (p.1 : Int), .int (p.2 : Int)])
theorem ResAt.up {H H' : Hp} {v : V} {r : Res} (h : ResAt H v r) (s : Same H H') : ResAt H' v r := by
  cases r with
  | line k =>
    obtain ⟨t, e, h⟩ := h
    exact ⟨t, e, s _ _ h⟩
  | told sg y =>
    obtain ⟨t, u, q, e, h1, h2, h3⟩ := h
    exact ⟨t, u, q, e, s _ _ h1, s _ _ h2, h3.up s⟩
  | ap p =>
    obtain ⟨t, u, e, h1, h2⟩ := h
    exact ⟨t, u, e, s _ _ h1, s _ _ h2⟩
structure TxtOk (t : Str) (ls : List Str) (last : Str) : Prop where
  sp : Txt.split t "\n" = ls ++ [last]
  lb : ∀ l ∈ ls ++ [last], Lb l
  ln : ls.length ≤ 15
  tl : t.length ≤ 900000
def spLRead : Sp := fun vs H Q _ => ∃ t ls last, vs = [.str t] ∧ TxtOk t ls last ∧ ∀ v r H', Same H H' → resM ls last r → ResAt H' v r → Q v H'
theorem SgG.sz {s : Sg} (g : SgG s) : Sz s := by
  obtain ⟨k, a⟩ := s
  refine ⟨?_, ?_⟩
  · have := g.1.2
    cases k <;> exact this
  · have := g.2.2.1
    cases a with
    | es l => exact this.2
    | no => trivial
    | tx z => trivial
theorem rd_a : LkG (.rd ["a"]) := ⟨⟨by simp, fun y hy => by rw [List.mem_singleton.mp hy]; exact ⟨by decide +kernel, by decide +kernel, by decide +kernel⟩, by decide⟩, by show 1 ≤ 40; decide⟩
theorem in_nons : (([PyData.none, .tuple [.none]] : List PyData).any fun z => PyData.eqv z .none) = true ∧ (([PyData.none, .tuple [.none]] : List PyData).any fun z => PyData.eqv z (.tuple [.none])) = true := by
  constructor <;> simp [PyData.eqv, PyData.eqvAll]
theorem in_nonsT (y : Str) : (([PyData.none, .tuple [.none]] : List PyData).any fun z => PyData.eqv z (.tuple [.str y])) = false := by
  simp [PyData.eqv, PyData.eqvAll]
theorem nons_shaped : SeqAt.shaped .none = true ∧ SeqAt.shaped (.tuple [.none]) = true ∧ SeqAt.shaped (.tuple [.none, .tuple [.none]]) = true := by decide +kernel
section
variable {P : Program} {w : World} {K : PySem.W.Frag} {mg : Str → Option Value} {base : Heap} {CR CS CA CBL fBL : Addr} {fdBL : FuncData}
theorem scLRead : FnScope ["_law_text_here", "_law_lines", "_law_sights", "_law_k", "_law_line", "_law_begin", "_law_colon", "_law_rest", "_law_look_here", "_law_answer", "_law_last", "_law_pair", "_law_one"] ["_law_text_here"] (defScope sLRead) := ⟨rfl, rfl, rfl, by decide +kernel, rfl, by decide +kernel, by decide +kernel⟩
theorem ok_lread {f fL fA fF : Addr} {fd fdL fdA fdF : FuncData} (F : Fun K "_law_read" "_law_read" sLRead f fd) (T : TB mg) (aLLkOf : At K mg "_law_look_of" fL fdL ["_law_text_here"]) (GLLkOf : FnOk P w K mg base CX0 2 fL fdL ["_law_text_here"] spLLkOf) (aLAnOf : At K mg "_law_answer_of" fA fdA ["_law_look_here", "_law_text_here"]) (GLAnOf : FnOk P w K mg base CX0 2 fA fdA ["_law_look_here", "_law_text_here"] spLAnOf)
    (aLFirst : At K mg "_law_first_apart" fF fdF ["_law_sights"]) (GLFirst : FnOk P w K mg base CX0 4 fF fdF ["_law_sights"] spLFirst) : FnOk P w K mg base CX0 5 f fd ["_law_text_here"] spLRead := by
  refine F.ok scLRead (fun vs H Q E h => ?_) (fun cdv A outer s H vs Q E hr h => ?_)
  · obtain ⟨t, ls, last, rfl, _⟩ := h
    rfl
  · obtain ⟨t, ls, last, rfl, tok, fin⟩ := h
    have hu0 : (A.deeper (envOfC "_law_read" (defScope sLRead) s.heap.objs.size f cdv)).units + 65 < cLine := by have := hr.un; omega
    have sz : 1000000 ≤ sizeLine := by decide
    have tl' := tok.tl
    have lnl := tok.ln
    refine ⟨_, pss_cons (ps_par (i := 1) (j := 2) (by rfl) scLRead.nd rfl rfl (by decide) rfl rfl (pa_cons (pe_bm PySem.F.plainAttrs_str PySem.F.slot_str_split PySem.F.type_str_split mt_split (pv 0) (pa_cons pe_str pa_nil)) (pa_cons (pe_lst pa_nil) pa_nil)) (by rfl))
            (pss_cons (ps_for PassesOwn.never rfl (pi_enum rfl T.enumerate (pa_cons (pe_slice sl_list (pv 1) po_none (po_some (pe_un un_neg pe_int))) pa_nil)) (pg_tup rfl (pgs_cons (pg_name (i := 3) scLRead.nd rfl (Or.inl rfl)) (pgs_cons (pg_name (i := 4) scLRead.nd rfl (Or.inl rfl)) pgs_nil))) (pss_cons (ps_asg (pe_bm PySem.F.plainAttrs_str PySem.F.slot_str_partition PySem.F.type_str_partition mt_partition (pv 4) (pa_cons pe_str pa_nil)) (pg_tup rfl (pgs_cons (pg_name (i := 5) scLRead.nd rfl (Or.inl rfl)) (pgs_cons (pg_name (i := 6) scLRead.nd rfl (Or.inl rfl)) (pgs_cons (pg_name (i := 7) scLRead.nd rfl (Or.inl rfl)) pgs_nil)))))
            (pss_cons (ps_set (i := 8) scLRead.nd rfl (Or.inl rfl) (pe_call GLLkOf (hr.mono (by decide)) rfl aLLkOf.m aLLkOf.k aLLkOf.b .nil pass0 (pa_cons (pv 5) pa_nil)))
            (pss_cut (ps_set (i := 9) scLRead.nd rfl (Or.inl rfl) (pe_ifExp (PW.pt (pw_and (pt_cmp (pc_notN (pv 8))) (pw_and1 (pt_cmpR op_ne (pv 6) pe_str (nomark _))))) (pe_call GLAnOf (hr.mono (by decide)) rfl aLAnOf.m aLAnOf.k aLAnOf.b .nil pass0 (pa_cons (pv 8) (pa_cons (pv 7) pa_nil))) pe_non))
            (pss_cons (ps_if (PW.pt (pw_or (pt_cmp (pc_isN (pv 9))) (pw_or1 (pt_cmpR (op_inD hu0) (pv 8) (pe_lc (own := [("_law_one", 12)]) (g := gName 12) (tt := tYes) rfl scLRead.nd (pi_list (pv 2)) (blkOk_by (own := [("_law_one", 12)]) (N := ["_law_text_here", "_law_lines", "_law_sights", "_law_k", "_law_line", "_law_begin", "_law_colon", "_law_rest", "_law_look_here", "_law_answer", "_law_last", "_law_pair", "_law_one"]) (sc := defScope sLRead) (by decide +kernel)) (fun _ _ _ _ _ => (pg_name (i := 12) scLRead.nd rfl (Or.inl rfl))) (fun _ _ _ _ _ => pts_nil) (fun _ _ _ _ _ => (by exact (pe_ix (ix_tupK (K0 := K) rfl) (pv 12) pe_int (fun _ _ => rfl))))) (by rfl))))) (pss_one (ps_ret (pe_tup (pa_cons pe_str (pa_cons (pv 3) pa_nil))))) (pss_nil))
            (pss_one (ps_expr (pe_bm PySem.F.plainAttrs_list PySem.F.slot_list_append PySem.F.type_list_append mt_append (pv 2) (pa_cons (pe_tup (pa_cons (pv 8) (pa_cons (pe_ix ix_tup (pv 9) pe_int (fun _ _ => rfl)) pa_nil))) pa_nil)))))))))
            (pss_cut (ps_set (i := 10) scLRead.nd rfl (Or.inl rfl) (pe_ix ix_list (pv 1) (pe_un un_neg pe_int) (fun _ _ => rfl)))
            (pss_cons (ps_if (PW.pt (pw_or (pt_cmpR op_ne (pe_slice sl_str (pv 10) po_none (po_some pe_int)) pe_str (nomark _)) (pw_or1 (pt_cmpR (EE.op_inT hu0) (pe_call GLAnOf (hr.mono (by decide)) rfl aLAnOf.m aLAnOf.k aLAnOf.b .nil pass0 (pa_cons (pe_tup (pa_cons pe_str (pa_cons pe_str pa_nil))) (pa_cons (pe_slice sl_str (pv 10) (po_some pe_int) po_none) pa_nil))) (pe_tup (pa_cons pe_non (pa_cons (pe_tup (pa_cons pe_non pa_nil)) pa_nil))) (by rfl))))) (pss_one (ps_ret (pe_tup (pa_cons pe_str (pa_cons (pe_op op_sub (pe_callB call_len_seq (by rfl) T.len PySem.boot_len (pa_cons (pv 1) pa_nil)) pe_int) pa_nil))))) (pss_nil))
            (pss_cons (ps_set (i := 11) scLRead.nd rfl (Or.inl rfl) (pe_call GLFirst (hr.mono (by decide)) rfl aLFirst.m aLFirst.k aLFirst.b .nil pass0 (pa_cons (pv 2) pa_nil)))
            (pss_one (ps_ret (pe_ifExp (pt_cmp (pc_isN (pv 11))) (pe_tup (pa_cons pe_str (pa_cons (pe_tup (pa_cons (pe_callTy call_tuple_of (by rfl) T.tuple (by decide +kernel) (pa_cons (pv 2) pa_nil)) (pa_cons (pe_slice sl_str (pv 10) (po_some pe_int) (po_some (pe_un un_neg pe_int))) pa_nil))) pa_nil))) (pe_tup (pa_cons pe_str (pa_cons (pv 11) pa_nil)))))))))), ?_⟩
    refine ⟨_, rfl, rfl, t, "\n", rfl, rfl, by decide +kernel, by omega, fun L hL => ?_⟩
    rw [tok.sp]
    have s1 := same_mk (o := .lst ((ls ++ [last]).map V.str)) hL
    have hL1 := upd_same (H := H) (a := L) (o := .lst ((ls ++ [last]).map V.str))
    generalize upd H L (.lst ((ls ++ [last]).map V.str)) = H1 at s1 hL1 ⊢
    refine ⟨by exact Nat.zero_le _, fun p hp => ?_⟩
    have nLp : L ≠ p := fun e => by rw [e, hp] at hL1; cases hL1
    have t1 := same_mk (o := .lst []) hp
    have hp2 := upd_same (H := H1) (a := p) (o := .lst [])
    have hL2 := t1 _ _ hL1
    generalize upd H1 p (.lst []) = H2 at t1 hp2 hL2 ⊢
    have eL : (ls ++ [last]).map V.str = ls.map V.str ++ [.str last] := by
      rw [List.map_append]
      rfl
    rw [eL] at hL2
    refine ⟨_, _, rfl, _, rfl, 1, rfl, -1, rfl, L, _, rfl, SqL.of hL2, fun L2 hL2' => ?_⟩
    rw [cut_init]
    have t3 := same_mk (o := .lst (ls.map V.str)) hL2'
    have hL3 := upd_same (H := H2) (a := L2) (o := .lst (ls.map V.str))
    have hp3 := t3 _ _ hp2
    have hL4 := t3 _ _ hL2
    have nL2 : L2 ≠ p := fun e => by rw [e, hp2] at hL2'; cases hL2'
    have t13 := t1.trans t3
    generalize upd H2 L2 (.lst (ls.map V.str)) = H3 at t3 t13 hL3 hp3 hL4 ⊢
    refine ⟨L2, _, rfl, SqL.of hL3, for_it (walk_enum (K := K) (a := L2) (xs := ls.map V.str)) (fun i σ H' => ∃ x3 x4 x5 x6 x7 x8 x9 vs sg, σ = [some (.str t), some (.ref L), some (.ref p), x3, x4, x5, x6, x7, x8, x9, none, none, none] ∧ Same H1 H' ∧ H' L = some (.lst (ls.map V.str ++ [.str last])) ∧ H' L2 = some (.lst (ls.map V.str)) ∧ H' p = some (.lst vs) ∧ vs.length = i ∧ sg.length = i ∧ (∀ (j : Nat) (v : V) (s : Sg), vs[j]? = some v → sg[j]? = some s → SiAt H' v s) ∧ goM ls [] = goM (ls.drop i) sg ∧ (∀ s ∈ sg, SgG s) ∧ (sg.map (·.1)).Nodup)
      ⟨_, _, _, _, _, _, _, [], [], rfl, t13, hL4, hL3, hp3, rfl, rfl, (fun j v s h => by simp at h), rfl, (fun s hs => by cases hs), List.nodup_nil⟩ (fun i σ H' _ q => by obtain ⟨_, _, _, _, _, _, _, _, _, _, _, _, h, _⟩ := q; exact SqL.of h) ?_ ?_⟩
    · rintro i _ _ H4 H4' hi ⟨x3, x4, x5, x6, x7, x8, x9, vs, sg, rfl, s4, hLL4, hL24, hp4, vl, gl, hvs, hgo, hgd, hnd⟩ ⟨T3, y0, y1, rfl, hT, rfl, hy0, hy1⟩
      cases hy0
      rw [List.length_map] at hi
      have hsi : ls[i]? = some ls[i] := List.getElem?_eq_getElem hi
      have hy1 : (ls.map V.str)[i]? = some y1 := hy1
      rw [List.getElem?_map, hsi] at hy1
      cases hy1
      have edr : ls.drop i = ls[i] :: ls.drop (i + 1) := List.drop_eq_getElem_cons hi
      rw [edr] at hgo
      have hlbi := tok.lb ls[i] (List.mem_append_left _ (List.getElem_mem hi))
      generalize ls[i] = l at *
      have ll := hlbi.ln
      have sT := same_mk (o := .tup [.int (i : Nat), .str l]) hT
      refine ⟨T3, _, rfl, SqT.of upd_same, rfl, _, _, rfl, _, _, rfl, rfl, ?_⟩
      obtain ⟨h, g, x, hpt, lbh, lbx, gx⟩ : ∃ h g x, Txt.partition l " : " = (h, g, x) ∧ Lb h ∧ Lb x ∧ (g = "" ∨ g = " : ") := by
        rcases part_or l " : " sp_tl.2.1 with ⟨a, b, e, ex⟩ | e
        · obtain ⟨g1, g2⟩ := hlbi.part ex
          exact ⟨a, _, b, e, g1, g2, .inr rfl⟩
        · exact ⟨l, _, _, e, hlbi, ⟨by decide +kernel, Nat.zero_le _, Nat.zero_le _, Nat.zero_le _, fun c hc => by cases hc⟩, .inl rfl⟩
      refine ⟨_, rfl, rfl, l, " : ", rfl, rfl, by decide +kernel, by omega, fun q hq => ?_⟩
      rw [hpt]
      have sq := same_mk (o := .tup [.str h, .str g, .str x]) hq
      have gq := upd_same (H := upd H4 T3 (.tup [.int (i : Nat), .str l])) (a := q) (o := .tup [.str h, .str g, .str x])
      have s5 := sT.trans sq
      generalize upd (upd H4 T3 (.tup [.int (i : Nat), .str l])) q (.tup [.str h, .str g, .str x]) = H5 at s5 gq ⊢
      refine ⟨q, _, rfl, SqT.of gq, rfl, _, _, rfl, _, _, rfl, _, _, rfl, rfl, ?_⟩
      refine ⟨_, rfl, h, rfl, lbh, fun v H6 s6 hv => ?_⟩
      have s46 := s5.trans s6
      have s16 := s4.trans s46
      -- the return
      have ret : goM ls [] = .inl i → ∀ H7, Same H6 H7 → ∀ u, H7 u = none → Q (.ref u) (upd H7 u (.tup [.str "line", .int (i : Nat)])) := fun e H7 s7 u hu =>
        fin _ (.line i) _ ((s1.trans s16).trans (s7.trans (same_mk hu))) (.inl e) ⟨u, rfl, upd_same⟩
      refine ⟨fun σ H' => ∃ va, σ = [some (.str t), some (.ref L), some (.ref p), some (.int (i : Nat)), some (.str l), some (.str h), some (.str g), some (.str x), some v, some va, none, none, none] ∧ Same H6 H' ∧ (telM l = none → va = .non) ∧ ∀ s0, telM l = some s0 → (∃ u, v = .ref u ∧ H' u = some (.tup (lkV s0.1))) ∧ ∃ tt aa, va = .ref tt ∧ H' tt = some (.tup [aa]) ∧ AnAt H' aa s0.2, ?_, ?_⟩
      · have no : telM l = none → ∃ va, [some (.str t), some (.ref L), some (.ref p), some (.int (i : Nat)), some (.str l), some (.str h), some (.str g), some (.str x), some v, some V.non, none, none, none] = [some (.str t), some (.ref L), some (.ref p), some (.int (i : Nat)), some (.str l), some (.str h), some (.str g), some (.str x), some v, some va, none, none, none] ∧ Same H6 H6 ∧ (telM l = none → va = .non) ∧ ∀ s0, telM l = some s0 → (∃ u, v = .ref u ∧ H6 u = some (.tup (lkV s0.1))) ∧ ∃ tt aa, va = .ref tt ∧ H6 tt = some (.tup [aa]) ∧ AnAt H6 aa s0.2 := fun e => ⟨_, rfl, Same.refl _, fun _ => rfl, fun s0 e2 => by rw [e] at e2; cases e2⟩
        cases ek : lookM h with
        | none =>
          rw [ek] at hv
          obtain rfl : v = .non := hv
          exact ⟨_, rfl, _, rfl, iteF (no (telM_no hpt (.inr (.inl ek))))⟩
        | some k =>
          rw [ek] at hv
          obtain ⟨u, rfl, hu⟩ := hv
          have gk := (lookM_some ek).1
          refine ⟨_, rfl, _, rfl, iteT ⟨_, rfl, rfl, ?_⟩⟩
          rcases gx with rfl | rfl
          · rw [eq_strT]
            exact ⟨_, rfl, iteF (no (telM_no hpt (.inl rfl)))⟩
          · have g0 : (" : " : Str) ≠ "" := by decide +kernel
            rw [eq_str g0]
            refine ⟨_, rfl, iteT ⟨_, rfl, _, rfl, u, x, k, rfl, hu, gk, lbx, fun va H7 s7 hva => ?_⟩⟩
            cases ea : ansM k x with
            | none =>
              rw [ea] at hva
              obtain rfl : va = .non := hva
              have et := telM_no hpt (.inr (.inr ⟨k, ek, ea⟩))
              exact ⟨_, rfl, s7, fun _ => rfl, fun s0 e2 => by rw [et] at e2; cases e2⟩
            | some a =>
              rw [ea] at hva
              obtain ⟨tt, aa, rfl, h1, h2⟩ := hva
              have et := telM_of hpt g0 ek ea
              refine ⟨_, rfl, s7, fun e => (by rw [et] at e; cases e), fun s0 e2 => ?_⟩
              rw [et] at e2
              cases e2
              exact ⟨⟨u, rfl, s7 _ _ hu⟩, tt, aa, rfl, h1, h2⟩
      rintro _ H7 ⟨va, rfl, s7, n1, n2⟩
      cases et : telM l with
      | none =>
        obtain rfl := n1 et
        rw [goM_none et, gl] at hgo
        exact ⟨_, rfl, _, rfl, iteT ⟨_, rfl, by show 2 ≤ sizeLine; decide, fun u hu => ret hgo H7 s7 u hu⟩⟩
      | some s0 =>
        obtain ⟨⟨u, rfl, hu⟩, tt, aa, rfl, htt, haa⟩ := n2 s0 et
        obtain ⟨gs, el⟩ := telM_some et
        have hw : LkW s0.1 := gs.1.1.w
        have s47 := s46.trans s7
        have hp7 := s47 _ _ hp4
        have hv7 : ∀ (j : Nat) (v : V) (s : Sg), vs[j]? = some v → sg[j]? = some s → SiAt H7 v s := fun j v s a b => (hvs j v s a b).up s47
        obtain ⟨us, ul, hus⟩ := pick_list (fun j (v : V) => ∃ (t0 u0 : Addr) (a0 : V) (s : Sg), vs[j]? = some (.ref t0) ∧ v = .ref u0 ∧ sg[j]? = some s ∧ H7 t0 = some (.tup [.ref u0, a0]) ∧ H7 u0 = some (.tup (lkV s.1))) vs.length fun j hj => by
          have e1 : vs[j]? = some vs[j] := List.getElem?_eq_getElem hj
          have e2 : sg[j]? = some sg[j] := List.getElem?_eq_getElem (by omega)
          obtain ⟨t0, u0, a0, e3, e4, e5, _⟩ := hv7 j _ _ e1 e2
          rw [e3] at e1
          exact ⟨.ref u0, t0, u0, a0, _, e1, rfl, e2, e4, e5⟩
        refine ⟨_, rfl, _, rfl, iteN (by intro z; cases z) ⟨_, rfl, _, rfl, p, rfl, ⟨_, SqL.of hp7⟩, fun D hD => ?_⟩⟩
        refine lcW (walk_list (K := K) (a := p) (xs := vs)) us ul (by omega) hD (fun H' s' => SqL.of (s' _ _ hp7)) ?_ ?_
        · rintro j x0 y0 _ H8 hy s8 ⟨rfl, hx⟩ Q1 k1
          obtain ⟨t0, u0, a0, s, e1, e2, e3, e4, e5⟩ := hus j y0 hy
          rw [e1] at hx
          cases hx
          subst e2
          exact ⟨_, rfl, t0, _, 0, _, rfl, rfl, SqT.of (s8 _ _ e4), atI_nat (j := 0) rfl, k1 H8 (Same.refl H8)⟩
        intro H8 s8 hD8
        refine ⟨lkD s0.1, (sg.map (·.1)).map lkD, lk_dp (s8 _ _ hu), .lst (SqL.of hD8) (dp_lks (by rw [ul, List.length_map]; omega) fun j v k' h1 h2 => ?_), lkD_shaped hw, shaped_lks _ fun k' hk => ?_, ?_⟩
        · obtain ⟨t0, u0, a0, s, e1, e2, e3, e4, e5⟩ := hus j v h1
          rw [List.getElem?_map, e3] at h2
          cases h2
          exact ⟨u0, e2, s8 _ _ e5⟩
        · obtain ⟨s, hs, rfl⟩ := List.mem_map.mp hk
          exact (hgd s hs).1.1.w
        rw [any_lk hw fun k' hk => by
          obtain ⟨s, hs, rfl⟩ := List.mem_map.mp hk
          exact (hgd s hs).1.1.w]
        refine ⟨_, rfl, ?_⟩
        have s68 := s7.trans s8
        by_cases rep : s0.1 ∈ sg.map (·.1)
        · rw [goM_rep et rep, gl] at hgo
          exact iteY rep ⟨_, rfl, by show 2 ≤ sizeLine; decide, fun u hu => ret hgo H8 s68 u hu⟩
        rw [goM_step et rep] at hgo
        have hp8 := s8 _ _ hp7
        have htt8 := s8 _ _ htt
        refine iteN rep ⟨_, rfl, .inl ⟨rfl, _, SqL.of hp8⟩, _, rfl, _, rfl, tt, _, 0, _, rfl, rfl, SqT.of htt8, atI_nat (j := 0) rfl, by show 2 ≤ sizeLine; decide, fun t0 ht0 => ?_⟩
        have s9 := same_mk (o := .tup [.ref u, aa]) ht0
        have hp9 := s9 _ _ hp8
        have sat : SiAt (upd H8 t0 (.tup [.ref u, aa])) (.ref t0) s0 := ⟨t0, u, aa, rfl, upd_same, s9 _ _ (s8 _ _ hu), (haa.up s8).up s9⟩
        have s49 := (s47.trans s8).trans s9
        generalize upd H8 t0 (.tup [.ref u, aa]) = H9 at s9 hp9 sat s49 ⊢
        have ts : TupS H9 (upd H9 p (.lst (vs ++ [.ref t0]))) := tupS_put hp9 fun xs z => by cases z
        refine ⟨p, _, _, rfl, rfl, hp9, ?_, _, _, _, _, _, _, _, vs ++ [.ref t0], sg ++ [s0], rfl, same_ch (s4.trans s49) hp, by rw [upd_ne nLp]; exact s49 _ _ hLL4, by rw [upd_ne nL2]; exact s49 _ _ hL24, upd_same, by rw [List.length_append, vl]; rfl, by rw [List.length_append, gl]; rfl, fun j v s h1 h2 => ?_, hgo, fun x hx => ?_, ?_⟩
        · exact Nat.lt_of_lt_of_le (show vs.length < 1001 by omega) (by decide)
        · rcases Nat.lt_or_ge j vs.length with h3 | h3
          · rw [List.getElem?_append_left h3] at h1
            rw [List.getElem?_append_left (by omega)] at h2
            exact ((hvs j v s h1 h2).up s49).tup ts
          · rw [List.getElem?_append_right h3] at h1
            have j0 : j - vs.length = 0 := by
              have := (List.getElem?_eq_some_iff.mp h1).1
              simp only [List.length_cons, List.length_nil] at this
              omega
            rw [j0] at h1
            rw [List.getElem?_append_right (by omega), show j - sg.length = 0 by omega] at h2
            cases h1
            cases h2
            exact sat.tup ts
        · rcases List.mem_append.mp hx with hx | hx
          · exact hgd x hx
          · rw [List.mem_singleton.mp hx]
            exact gs
        · rw [List.map_append, List.map_singleton]
          refine List.nodup_append.mpr ⟨hnd, List.pairwise_singleton _ _, fun a ha b hb e => rep ?_⟩
          rw [List.mem_singleton] at hb
          rw [← hb, ← e]
          exact ha
    · rintro _ H4 ⟨x3, x4, x5, x6, x7, x8, x9, vs, sg, rfl, s4, hLL4, hL24, hp4, vl, gl, hvs, hgo, hgd, hnd⟩
      rw [List.length_map] at vl gl hgo
      rw [List.drop_length] at hgo
      have hgo : goM ls [] = .inr sg := hgo
      have lbl := tok.lb last (List.mem_append_right _ (List.mem_singleton.mpr rfl))
      have lln := lbl.ln
      refine ⟨fun σ H' => σ = [some (.str t), some (.ref L), some (.ref p), x3, x4, x5, x6, x7, x8, x9, some (.str last), none, none] ∧ H4 = H', ⟨_, rfl, 1, rfl, L, _, _, _, rfl, rfl, SqL.of hLL4, atI_last _ _, rfl, rfl⟩, ?_⟩
      rintro _ _ ⟨rfl, rfl⟩
      have s14 := s1.trans s4
      have lenE : (((ls.map V.str ++ [V.str last]).length : Int) - 1) = ((sg.length : Nat) : Int) := by
        rw [List.length_append, List.length_map, List.length_singleton]
        omega
      have ret : outM last = none → ∀ H7, Same H4 H7 → ∀ u, H7 u = none → Q (.ref u) (upd H7 u (.tup [.str "line", .int (((ls.map V.str ++ [V.str last]).length : Int) - 1)])) := fun e H7 s7 u hu => by
        refine fin _ (.line sg.length) _ (s14.trans (s7.trans (same_mk hu))) (.inr ⟨sg, hgo, e, rfl⟩) ⟨u, rfl, ?_⟩
        rw [upd_same, lenE]
      refine ⟨_, rfl, 6, rfl, last, rfl, by omega, rfl, ?_⟩
      by_cases e6 : cutS last none (some (6 : Int)) = "end : "
      rotate_left
      · rw [eq_str e6]
        exact ⟨_, rfl, iteT ⟨_, rfl, L, _, rfl, .inl (SqL.of hLL4), _, _, rfl, rfl, by show 2 ≤ sizeLine; decide, fun u hu => ret (out_none (.inl e6)) H4 (Same.refl _) u hu⟩⟩
      rw [show decide (V.str (cutS last none (some (6 : Int))) = V.str "end : ") = true from decide_eq_true (by rw [e6])]
      obtain ⟨_, lbx⟩ := lbl.part (six_of e6)
      refine ⟨_, rfl, iteF ⟨by show 2 ≤ sizeLine; decide, fun u hu => ⟨_, rfl, 6, rfl, last, rfl, by omega, u, cutS last (some (6 : Int)) none, .rd ["a"], rfl, upd_same, rd_a, lbx, fun va H5 s5 hva => ?_⟩⟩⟩
      have su := same_mk (o := .tup [.str "read", .str "a"]) hu
      have s45 := su.trans s5
      have txE : ∀ z, paM (cutS last (some (6 : Int)) none) = some (.tx z) → ansM (.rd ["a"]) (cutS last (some (6 : Int)) none) = some (.tx z) := fun z e => by
        have ex := paM_tx_ex e
        have ez : insT (cutS last (some (6 : Int)) none) = z := by rw [ex]; exact cut_tx z
        have mem : ∀ c ∈ tl z, c ∈ tl (cutS last (some (6 : Int)) none) := by rw [← ez]; exact ins_mem
        have zl : z.length ≤ 1000 := by
          have := ins_len (cutS last (some (6 : Int)) none)
          have := lbx.ln
          rw [ez] at *
          omega
        rw [ex]
        exact ansM_tx (k := .rd ["a"]) (fun m => lbx.nn (mem _ m)) zl (lbx.okz mem)
      refine ⟨by show 1 ≤ sizeLine; decide, fun a ha => ⟨by show 2 ≤ sizeLine; decide, fun b hb => ?_⟩⟩
      have sa := same_mk (o := .tup [.non]) ha
      have sb := same_mk (o := .tup [.non, .ref a]) hb
      have s47 := (s45.trans sa).trans sb
      have hva7 := (hva.up sa).up sb
      have dpB : Dp K (upd (upd H5 a (.tup [.non])) b (.tup [.non, .ref a])) (.ref b) (.tuple [.none, .tuple [.none]]) := .tup (SqT.of upd_same) (.cons .non (.cons (.tup (SqT.of (sb _ _ upd_same)) (.cons .non .nil)) .nil))
      generalize upd (upd H5 a (.tup [.non])) b (.tup [.non, .ref a]) = H7 at s47 hva7 dpB ⊢
      cases ea : ansM (.rd ["a"]) (cutS last (some (6 : Int)) none) with
      | none =>
        rw [ea] at hva7
        obtain rfl : va = .non := hva7
        refine ⟨.none, _, .non, dpB, nons_shaped.1, nons_shaped.2.2, ?_⟩
        rw [in_nons.1]
        exact ⟨_, rfl, iteT ⟨_, rfl, L, _, rfl, .inl (SqL.of (s47 _ _ hLL4)), _, _, rfl, rfl, by show 2 ≤ sizeLine; decide, fun u2 hu2 => ret (out_none (.inr fun z e => by rw [txE z e] at ea; cases ea)) H7 s47 u2 hu2⟩⟩
      | some an =>
        rw [ea] at hva7
        obtain ⟨tt, aa, rfl, htt, haa⟩ := hva7
        obtain ⟨ga, ex⟩ := ansM_some ea
        cases an with
        | es l => exact ga.1.elim
        | no =>
          obtain rfl : aa = .non := haa
          refine ⟨.tuple [.none], _, .tup (SqT.of htt) (.cons .non .nil), dpB, nons_shaped.2.1, nons_shaped.2.2, ?_⟩
          rw [in_nons.2]
          exact ⟨_, rfl, iteT ⟨_, rfl, L, _, rfl, .inl (SqL.of (s47 _ _ hLL4)), _, _, rfl, rfl, by show 2 ≤ sizeLine; decide, fun u2 hu2 => ret (out_none (.inr fun z e => by rw [txE z e] at ea; cases ea)) H7 s47 u2 hu2⟩⟩
        | tx y =>
          obtain rfl : aa = .str y := haa
          obtain ⟨el, eo⟩ := out_some e6 ex (by omega)
          refine ⟨.tuple [.str y], _, .tup (SqT.of htt) (.cons (.str y) .nil), dpB, shaped_strs [y] (fun z hz => by rw [List.mem_singleton.mp hz]; exact ga.2.2), nons_shaped.2.2, ?_⟩
          rw [in_nonsT y]
          refine ⟨_, rfl, iteF ?_⟩
          have hS : SisL H7 p sg := ⟨vs, s47 _ _ hp4, by rw [vl, gl], fun j v s a b => (hvs j v s a b).up s47⟩
          refine ⟨_, rfl, p, sg, rfl, hS, by omega, fun s hs => ⟨(hgd s hs).si, (hgd s hs).sz⟩, fun v oo H8 s8 fa hv => ?_⟩
          have s18 := (s14.trans s47).trans s8
          cases oo with
          | none =>
            obtain rfl : v = .non := hv
            have hp8 := s8 _ _ (s47 _ _ hp4)
            refine ⟨_, rfl, _, rfl, iteT ⟨_, rfl, p, _, rfl, .inl ⟨SqL.of hp8, fun q hq => ⟨_, rfl, 7, rfl, 1, rfl, -1, rfl, last, rfl, by omega, by show 2 ≤ sizeLine; decide, fun u2 hu2 => ⟨by show 2 ≤ sizeLine; decide, fun t2 ht2 => ?_⟩⟩⟩⟩⟩
            have sq := same_mk (o := .tup vs) hq
            have su2 := same_mk (o := .tup [.ref q, .str (cutS last (some (7 : Int)) (some (-1)))]) hu2
            have st2 := same_mk (o := .tup [.str "told", .ref u2]) ht2
            refine fin _ (.told sg y) _ (s18.trans ((sq.trans su2).trans st2)) ⟨hgo, eo, fa⟩ ⟨t2, u2, q, rfl, upd_same, ?_, vs, st2 _ _ (su2 _ _ upd_same), by rw [vl, gl], fun j v s a b => (((((hvs j v s a b).up s47).up s8).up sq).up su2).up st2⟩
            have e7 : cutS last (some (7 : Int)) (some (-1)) = y := by rw [el, seven_end]
            rw [e7] at st2 ⊢
            exact st2 _ _ upd_same
          | some pr =>
            obtain ⟨q, rfl, hq⟩ := hv
            refine ⟨_, rfl, _, rfl, iteF ⟨_, rfl, by show 2 ≤ sizeLine; decide, fun t2 ht2 => ?_⟩⟩
            have st2 := same_mk (o := .tup [.str "apart", .ref q]) ht2
            exact fin _ (.ap pr) _ (s18.trans st2) ⟨sg, y, hgo, eo, fa⟩ ⟨t2, q, rfl, upd_same, st2 _ _ hq⟩
end
end K3

set_option maxHeartbeats 3900000
namespace TA
open PySem PySem.Spec PyProof.Rows L2
abbrev Suit := Addr → Value → Option Addr → TS
def gone (i : Nat) (D : Ends) : Ends where
  nx := fun a b => D.nx (a.set i none) b
  rt := D.rt
  bk := fun a b => D.bk (a.set i none) b
  ct := fun a b => D.ct (a.set i none) b
def wEach (K : PySem.W.Frag) (i : Nat) (Wout : WX) (D : Ends) : List (Value × Suit) → WX
  | [] => Wout
  | one :: more => fun cls d τ G => ∃ hit, PySem.W.exmOne K cls one.1 = some hit ∧
      (hit = true → ∀ a, G a = none → one.2 a cls d (gone i D) (τ.set i (some (.ref a))) G) ∧
      (hit = false → wEach K i Wout D more cls d τ G)
inductive Clauses (X : Cx) (n : Str) : List ExceptHandler → List (Value × Suit) → Prop
  | nil : Clauses X n [] []
  | cons {x : Str} {cl : Value} {ts : Suit} {b1 : Stmt} {bs : List Stmt} {q1 q2 : Pos} {hs : List ExceptHandler} {l : List (Value × Suit)}
      (nm : Names X x cl)
      (su : ∀ (a : Addr) (ob : Obj) (cls : Value) (d : Option Addr) (pn : List (Addr × Obj)), Zc cls d ob → (∃ fs, ob.data = .fields fs) → PSs (X.suite a ((a, ob) :: pn)) (b1 :: bs) (ts a cls d))
      (rest : Clauses X n hs l) : Clauses X n (.ExceptHandler (some (.Name x q1)) (some n) (b1 :: bs) q2 :: hs) ((cl, ts) :: l)
section
variable {X : Cx} {n : Str} {i : Nat} {body : List Stmt} {c0 : ExceptHandler} {cs : List ExceptHandler} {l : List (Value × Suit)} {pos : Pos} {tb : WX → TS} {Wout : WX}
theorem ps_try_each (hs : X.stack = X.env :: X.outer) (hf : X.env.frame = some X.env.locals) (nd : X.N.Nodup) (hi : X.N[i]? = some n) (hl : X.env.kindOf n = some .local) (tk : Takes X Wout)
    (hb : ∀ (W : WX) (pn : List (Addr × Obj)) (xe : Value → Shared → Prop), Takes (X.tr pn xe) W → PassesOwn (model X.prog X.w) X.A X.env xe → PSs (X.tr pn xe) body (tb W))
    (hc : Clauses X n (c0 :: cs) l) : PS X (.Try body (c0 :: cs) [] [] pos) (fun D σ H => tb (wEach X.K i Wout D l) D σ H) := by
  constructor
  intro pins s σ H D I h
  have ok := I.ok
  have frames : X.A.frames = some (X.env :: X.outer) := ok.frames.trans (congrArg some hs)
  let look : Value → Shared → Prop := fun e s1 => wpAny (model X.prog X.w) X.A (noteFrame e X.env) (fun _ s2 =>
    wpAny (model X.prog X.w) X.A (setFlight e none) (fun _ s3 =>
      wpAny (model X.prog X.w) X.A (handleBy e X.env (c0 :: cs)) (SP X pins D) X.xe s3) X.xe s2) X.xe s1
  have caught : Takes (X.tr (X.pn ++ pins) look) (wEach X.K i Wout D l) := by
    rintro u t ⟨a, B, sI, pins2, τ, G, cls, d, rfl, Jt, nb, up, sky, na, eos, bare, want⟩
    have J : Inv X pins τ G sI := Jt.ofTry ok
    have sky2 : Sky B (X.env :: X.outer) a (Zc cls d) X.env.locals t.heap := hs ▸ sky
    show wpAny (model X.prog X.w) X.A (noteFrame (.ref a) X.env) _ _ _
    refine Sky.land Zc.steady frames hf sky2 fun g fly upg => ?_
    have Jg : Inv X pins τ G { t with heap := g } := J.landed nb fly.1 (up.trans upg) eos bare
    obtain ⟨ob, fs, hob, hzc, hdat⟩ := fly.there
    have notIn : a ∉ frs (X.env :: X.outer) := by
      intro m
      obtain ⟨_, o2, e2, no⟩ := fly.2.2.1.mem m
      rw [hob] at e2
      exact no fs (Option.some.inj e2 ▸ hdat)
    have neL : a ≠ X.env.locals := by
      rintro rfl
      exact notIn (List.mem_filterMap.mpr ⟨X.env, List.mem_cons_self, hf⟩)
    have neF : a ∉ X.fs := by
      intro m
      obtain ⟨ev, hev, q⟩ := List.mem_filterMap.mp m
      exact notIn (List.mem_filterMap.mpr ⟨ev, List.mem_cons_of_mem _ hev, q⟩)
    have key : ∀ {cs2 : List ExceptHandler} {l2 : List (Value × Suit)}, Clauses X n cs2 l2 → wEach X.K i Wout D l2 cls d τ G →
        wpAny (model X.prog X.w) X.A (handleBy (.ref a) X.env cs2) (SP X pins D) X.xe { t with heap := g } := by
      intro cs2 l2 C
      induction C with
      | nil =>
        intro want2
        apply wpAny_handleBy_nil
        obtain ⟨_, _, _, o3, fs3, T, _, _, e3, _, d3, v3, _⟩ := id fly
        have on : wpAny (model X.prog X.w) X.A (setFlight (.ref a) X.env.frame) (fun _ s4 => wpAny (model X.prog X.w) X.A (throw (.ref a) : Sem Flow) (SP X pins D) X.xe s4) X.xe { t with heap := g } := by
          rw [hf]
          exact HandSPX.setFlight_upZ fly fun g4 held up4 => wpAny_throw (tk _ _ ⟨a, B, sI, pins, τ, G, cls, d, rfl, J, nb, (up.trans upg).trans up4, .inr (.inr (hs.symm ▸ held)), na, eos, bare, want2⟩)
        unfold PySem.passOn
        refine wpAny_bind (wpAny_field e3 d3 v3 ?_)
        have nn : ¬ ((Value.ref T == Value.none) = true) := by simp
        rw [if_neg nn]
        first
          | exact wpAny_bind on
          | exact wpAny_bind (wpAny_pure (wpAny_bind on))
      | @cons x cl ts b1 bs q1 q2 hs3 l3 nm su rest ih =>
        rintro ⟨hit, isHit, yes, no⟩
        have sut := Jg.suite hob hdat na neL neF
        have cname : ∀ {Q E : Value → Shared → Prop}, Q cl { t with heap := g } → wpAny (model X.prog X.w) (X.A.mark (some (.ref a))) (eval (.Name x q1) X.env) Q E { t with heap := g } := by
          intro Q E q
          obtain ⟨gl, dbg, m1 | ⟨m1, m2, m3⟩⟩ := nm
          · exact ld_glob (X := X.suite a ((a, ob) :: (X.pn ++ pins))) sut gl m1 q dbg
          · exact ld_blt (X := X.suite a ((a, ob) :: (X.pn ++ pins))) sut gl m1 m2 q m3 dbg
        have ofCls : PySem.W.Looks (model X.prog X.w) g (typeOf (.ref a)) cls := fun A Q E s k q => wpAny_typeOf_ref (k _ _ hob) (hzc.1 ▸ q)
        refine wpAny_handleBy_cons (codeAny_handlers_test (cname ((PySem.W.exm_one (M := model X.prog X.w) Jg.kIn ofCls isHit).here ?_))) (by intro q; cases q)
        match hit, yes, no with
        | false, _, no => exact ih (no rfl)
        | true, yes, _ =>
          apply codeAny_handlers_suite_as
          refine HandSPX.lands_againZ fly fun g4 fly4 up4 => ?_
          obtain ⟨ob4, fs4, hob4, hzc4, hdat4⟩ := fly4.there
          have J4 : Inv X pins τ G { t with heap := g4 } := J.landed nb fly4.1 ((up.trans upg).trans up4) eos bare
          refine store_ok (X := X.suite a ((a, ob4) :: (X.pn ++ pins))) (v := .ref a) (J4.suite hob4 hdat4 na neL neF) nd hi (.inl hl) rfl (fun s5 J5 => ?_) (.inr hl)
          have bye : ∀ {s6 : Shared} {τ6 : L2.St} {G6 : Hp} {Q : Shared → Prop}, Inv (X.suite a ((a, ob4) :: (X.pn ++ pins))) [] τ6 G6 s6 → (∀ s7, Inv X pins (τ6.set i none) G6 s7 → Q s7) →
              wpAny (model X.prog X.w) X.A (do bindName X.env n .none; unbindBehindTheSuite X.env n q2) (fun _ s7 => Q s7) X.xe s6 := fun J6 k => gone_ok (J6.unsuite ok) nd hi hl k
          refine wpAny_mono ((su a ob4 cls d (X.pn ++ pins) hzc4 ⟨_, hdat4⟩).run [] s5 _ G _ J5 (yes rfl a na)) (fun f s6 end6 => ?_) (fun _ _ z => z.elim)
          cases f with
          | next => obtain ⟨τ6, G6, J6, q6⟩ := end6; exact bye J6 fun s7 J7 => ⟨_, _, J7, q6⟩
          | brk => obtain ⟨τ6, G6, J6, q6⟩ := end6; exact bye J6 fun s7 J7 => ⟨_, _, J7, q6⟩
          | cont => obtain ⟨τ6, G6, J6, q6⟩ := end6; exact bye J6 fun s7 J7 => ⟨_, _, J7, q6⟩
          | ret u6 => obtain ⟨v6, τ6, G6, J6, r6, q6⟩ := end6; exact bye J6 fun s7 J7 => ⟨_, _, _, J7, r6, q6⟩
    exact key hc want
  refine wpAny_Try_except (wpAny_mono ((hb (wEach X.K i Wout D l) (X.pn ++ pins) look caught PassesOwn.looking).run [] s σ H D (I.toTry _) h) (fun f t end1 => ?_) (fun e t he => he))
  cases f with
  | next => obtain ⟨τ, G, J, q⟩ := end1; exact wpAny_execs_nil ⟨τ, G, J.ofTry ok, q⟩
  | brk => obtain ⟨τ, G, J, q⟩ := end1; exact ⟨τ, G, J.ofTry ok, q⟩
  | cont => obtain ⟨τ, G, J, q⟩ := end1; exact ⟨τ, G, J.ofTry ok, q⟩
  | ret r => obtain ⟨v, τ, G, J, rr, q⟩ := end1; exact ⟨v, τ, G, J.ofTry ok, rr, q⟩
end
end TA

set_option maxHeartbeats 3900000
namespace K3
open PySem PySem.Spec PyProof.Rows L2 TL
open C8 (pss_cut tCut pe_gc)
open CB XW LE LR TA
abbrev sLEnd : Stmt := top 84
section
variable {P : Program} {w : World} {K : PySem.W.Frag} {mg : Str → Option Value} {base : Heap} {CR CS CA CBL fA fBL : Addr} {fdBL : FuncData}
theorem scLEnd : FnScope ["_law_text_here", "_law_found", "_law_run", "e"] ["_law_text_here"] (defScope sLEnd) := ⟨rfl, rfl, rfl, by decide +kernel, rfl, by decide +kernel, by decide +kernel⟩
theorem ok_lend {f fR : Addr} {fd fdR : FuncData} (F : Fun K "_law_end" "_law_end" sLEnd f fd) (R : RCl K mg CR) (BBL : BLine K mg CBL fBL) (BA : BApart K mg CA fA) (no : PySem.W.exmOne K (.ref CA) (.ref CBL) = some false)
    (aRd : At K mg "read_run" fR fdR ["text"]) (GRd : FnOk P w K mg base (CX P w) 12 fR fdR ["text"] (spRdX CR CA CBL)) : FnOk P w K mg base CX0 14 f fd ["_law_text_here"] spLRead := by
  refine F.ok scLEnd (fun vs H Q E h => ?_) (fun cdv A outer s H vs Q E hr h => ?_)
  · obtain ⟨t, ls, last, rfl, _⟩ := h
    rfl
  · obtain ⟨t, ls, last, rfl, tok, fin⟩ := h
    have hr9 : Room 13 _ := hr.mono (by decide)
    refine ⟨_, pss_cons (ps_set (i := 1) scLEnd.nd rfl (Or.inl rfl) pe_non)
      (pss_cons (ps_try_each (i := 3) (l := [(.ref CBL, _), (.ref CA, _)]) (Wout := fun _ _ _ _ => False) rfl rfl scLEnd.nd rfl rfl L2.takes0
        (fun W pn xe tk _ => pss_cons (ps_set (i := 2) scLEnd.nd rfl (Or.inl rfl) (by exact (pe_callS GRd (Room.mono (show Room 13 (A.deeper (envOfC "_law_end" (defScope sLEnd) s.heap.objs.size f cdv)) from hr9) (by decide)) rfl aRd.m aRd.k aRd.b (fun σ => passAt tk σ) (pa_cons (pv 0) pa_nil))))
          (pss_one (ps_set (i := 1) scLEnd.nd rfl (Or.inl rfl) (pe_tup (pa_cons pe_str (pa_cons (pe_tup (pa_cons (_root_.MS.pe_fldK K rfl (pv 2) rfl) (pa_cons (_root_.MS.pe_fldK K rfl (pv 2) rfl) pa_nil))) pa_nil))))))
        (.cons ⟨rfl, by decide, Or.inl BBL.mg⟩ (fun a ob cls d pn hz hf => pss_one (ps_set (i := 1) scLEnd.nd rfl (Or.inl rfl) (pe_tup (pa_cons pe_str (pa_cons (pe_xf BBL.xf BBL.no hz hf (pv 3)) pa_nil)))))
        (.cons ⟨rfl, by decide, Or.inl BA.mg⟩ (fun a ob cls d pn hz hf => pss_one (ps_set (i := 1) scLEnd.nd rfl (Or.inl rfl) (pe_tup (pa_cons pe_str (pa_cons (pe_tup (pa_cons (pe_xf BA.xf BA.no1 hz hf (pv 3)) (pa_cons (pe_xf BA.xf BA.no2 hz hf (pv 3)) pa_nil))) pa_nil))))) .nil)))
      (pss_one (ps_ret (pv 1)))), ?_⟩
    refine ⟨_, rfl, t, ls, last, rfl, tok.sp, tok.lb, Nat.le_trans tok.ln (by decide), tok.tl, ?_⟩
    have line : ∀ k : Nat, resM ls last (.line k) → ∀ H1, Same H H1 → ∀ p, H1 p = none → Q (.ref p) (upd H1 p (.tup [.str "line", .int (k : Int)])) := fun k e H1 s1 p hp => fin _ (.line k) _ (s1.trans (same_mk hp)) e ⟨p, rfl, upd_same⟩
    constructor
    · intro k e d H1 s1 hd hxd
      refine ⟨true, BBL.te, fun _ a ha => ?_, fun q => Bool.noConfusion q⟩
      refine ⟨_, rfl, rfl, rfl, d, _, .int (k : Int), rfl, hxd, by simp [List.lookup], by show 2 ≤ sizeLine; decide, fun p hp => ?_⟩
      exact ⟨_, rfl, line k (.inl e) H1 s1 p hp⟩
    · intro sg e eo d H1 s1 hd hxd
      refine ⟨true, BBL.te, fun _ a ha => ?_, fun q => Bool.noConfusion q⟩
      refine ⟨_, rfl, rfl, rfl, d, _, .int (sg.length : Int), rfl, hxd, by simp [List.lookup], by show 2 ≤ sizeLine; decide, fun p hp => ?_⟩
      exact ⟨_, rfl, line sg.length (.inr ⟨sg, e, eo, rfl⟩) H1 s1 p hp⟩
    · intro sg y e eo oo fa
      refine ⟨fun e0 o H1 s1 rn => ?_, fun p e0 d H1 s1 hd hxd => ?_⟩
      · subst e0
        obtain ⟨dx1, wt, ho1, hwt⟩ := id rn
        refine ⟨_, rfl, o, CR, dx1, _, _, rfl, ho1, R.cl, R.n1, lk_r1 _ _, _, rfl, o, CR, dx1, _, _, rfl, ho1, R.cl, R.n2, lk_r2 _ _, by show 2 ≤ sizeLine; decide, fun u hu => ⟨by show 2 ≤ sizeLine; decide, fun q hq => ?_⟩⟩
        have su := same_mk (o := .tup [.ref wt, .str y]) hu
        have st := same_mk (o := .tup [.str "told", .ref u]) hq
        exact ⟨_, rfl, fin _ (.told sg y) _ (s1.trans (su.trans st)) ⟨e, eo, fa⟩ ⟨q, u, wt, rfl, upd_same, st _ _ upd_same, (hwt.up su).up st⟩⟩
      · subst e0
        refine ⟨false, no, fun q => Bool.noConfusion q, fun _ => ⟨true, BA.te, fun _ a ha => ?_, fun q => Bool.noConfusion q⟩⟩
        have e1 : (("first" : Str) == ("second" : Str)) = false := by decide +kernel
        have e2 : (("first" : Str) == ("first" : Str)) = true := by decide +kernel
        refine ⟨_, rfl, rfl, rfl, d, _, .int (p.1 : Int), rfl, hxd, by simp only [List.lookup, e1, e2], _, rfl, rfl, rfl, d, _, .int (p.2 : Int), rfl, hxd, by simp [List.lookup], by show 2 ≤ sizeLine; decide, fun u hu => ⟨by show 2 ≤ sizeLine; decide, fun q hq => ?_⟩⟩
        have su := same_mk (o := .tup [.int (p.1 : Int), .int (p.2 : Int)]) hu
        have st := same_mk (o := .tup [.str "apart", .ref u]) hq
        exact ⟨_, rfl, fin _ (.ap p) _ (s1.trans (su.trans st)) ⟨sg, y, e, eo, fa⟩ ⟨q, u, rfl, upd_same, st _ _ upd_same⟩⟩
end
end K3

set_option maxHeartbeats 3900000
namespace K3
open PySem PySem.Spec PyProof.Rows L2 TL
open C8 (pss_cut tCut pe_gc)
open CB XW LE LR
abbrev sLSpo : Stmt := top 79
theorem cutT (xs : List V) (k : Nat) : cutV xs none (some (k : Int)) = xs.take k := by
  unfold cutV
  rw [HT.sIx_nat]
  show (xs.drop 0).take (min k xs.length - 0) = xs.take k
  rw [List.drop_zero, Nat.sub_zero, ← List.take_take, List.take_length]
theorem cutD (xs : List V) (k : Nat) : cutV xs (some (k : Int)) none = xs.drop k := by
  unfold cutV
  rw [HT.sIx_nat]
  show (xs.drop (min k xs.length)).take (xs.length - min k xs.length) = xs.drop k
  rcases Nat.le_total k xs.length with h | h
  · rw [Nat.min_eq_left h]
    exact List.take_of_length_le (by rw [List.length_drop]; omega)
  · rw [Nat.min_eq_right h, List.drop_length, List.drop_eq_nil_of_le h, List.take_nil]
theorem cutM (xs : List V) (k : Nat) : ∃ j, cutV xs (some (k : Int)) (some ((k : Int) + 1)) = (xs.drop j).take 1 ∨ cutV xs (some (k : Int)) (some ((k : Int) + 1)) = [] := by
  unfold cutV
  rw [show (k : Int) + 1 = ((k + 1 : Nat) : Int) by omega, HT.sIx_nat, HT.sIx_nat]
  refine ⟨min k xs.length, ?_⟩
  rcases Nat.lt_or_ge k xs.length with h | h
  · left
    rw [Nat.min_eq_left (by omega), Nat.min_eq_left (by omega), show k + 1 - k = 1 by omega]
  · right
    rw [Nat.min_eq_right (by omega), Nat.min_eq_right (by omega), Nat.sub_self, List.take_zero]
def signsL : List Str := [" ", ":", "\"", "-", "(", ")", "/", "\n", "a", "A", "", ""]
def oddL : List Str := ["", "read a : x", "read : \"x\"", "list  : ()", "list / : -", "list a : ()", "tool : -", "end : -", "read a  : \"x\"", "read a : \"x\" ", "read a :\"x\"", "list / : ( )", "list / : (b a)", "read a : ()", "tool a : \"x\"", "list / : (a  b)", "read a/ : \"x\"", "setting a/b : \"x\"", "list / : (a a/)", "list / : (a,b)", "look a : \"x\"", "end : \"x"]
theorem signs_ok : ∀ s ∈ signsL, s.length ≤ 1 ∧ ∀ c ∈ tl s, c < 128 := by decide +kernel
theorem odd_ok : ∀ s ∈ oddL, LnOk 8 100 s := by
  have : ∀ s ∈ oddL, 10 ∉ tl s ∧ wt (wc 47) (tl s) ≤ 8 ∧ wt (wc 32) (tl s) ≤ 8 ∧ s.length ≤ 100 ∧ ∀ c ∈ tl s, c < 128 := by decide +kernel
  exact fun s hs => ⟨(this s hs).1, (this s hs).2.1, (this s hs).2.2.1, (this s hs).2.2.2.1, (this s hs).2.2.2.2⟩
theorem eq_int (a b : Int) : decide (V.int a = V.int b) = decide (a = b) := decide_eq_decide.mpr ⟨V.int.inj, fun q => by rw [q]⟩
theorem tl_len2 (x : Str) : (tl x).length = x.length := (len_tl x).symm
def spLSpo : Sp := fun vs H Q _ => ∃ (st l : Addr) (c : Nat) (t : Str) (B L n : Nat), vs = [.ref st, .str t] ∧ Strm H st l c ∧ c ≤ 600000 ∧ TG B L n t ∧ 8 ≤ B ∧ B ≤ 17 ∧ 100 ≤ L ∧ L ≤ 481 ∧ n ≤ 20 ∧
  ∀ (t' : Str) (H' : Hp) (c' : Nat), TG (2 * B + 1) (2 * L + 1) (n + 1) t' → But st l H H' → Strm H' st l c' → c' ≤ c + 30 → Q (.str t') H'
theorem lines_sum {ls : List Str} {L : Nat} (h : ∀ l ∈ ls, l.length ≤ L) (hl : L ≤ 1000) (hn : ls.length ≤ 100) : (ls.map (·.length)).sum + ls.length * ("\n" : Str).length ≤ 200000 := by
  have q := sum_le (ps := ls) (b := 1000) fun p hp => Nat.le_trans (h p hp) hl
  have e : ("\n" : Str).length = 1 := by decide +kernel
  rw [e]
  have : ls.length * 1000 ≤ 100 * 1000 := Nat.mul_le_mul_right _ hn
  omega
section
variable {P : Program} {w : World} {K : PySem.W.Frag} {mg : Str → Option Value} {base : Heap} {fD : Addr} {fdD : FuncData}
theorem scLSpo : FnScope ["_law_stream", "_law_text_here", "_law_way", "_law_lines", "_law_k", "_law_at", "_law_sign", "_law_odd"] ["_law_stream", "_law_text_here"] (defScope sLSpo) := ⟨rfl, rfl, rfl, by decide +kernel, rfl, by decide +kernel, by decide +kernel⟩
theorem ok_lspo {f fP fM : Addr} {fd fdP fdM : FuncData} (F : Fun K "_law_spoiled" "_law_spoiled" sLSpo f fd) (T : TB mg) (aD : aD' K mg fD fdD) (GD : FnOk P w K mg base CX0 1 fD fdD ["_law_stream", "_law_many"] spDraw) (aP : At K mg "_law_pick" fP fdP ["_law_stream", "_law_things"]) (GP : FnOk P w K mg base CX0 2 fP fdP ["_law_stream", "_law_things"] spPick)
    (aMixed : At K mg "_law_mixed" fM fdM ["_law_stream", "_law_things"]) (GMixed : FnOk P w K mg base CX0 2 fM fdM ["_law_stream", "_law_things"] spMixedG) : FnOk P w K mg base CX0 3 f fd ["_law_stream", "_law_text_here"] spLSpo := by
  refine F.ok scLSpo (fun vs H Q E h => ?_) (fun cdv A outer s H vs Q E hr h => ?_)
  · obtain ⟨st, l, c, t, B, L, n, rfl, _⟩ := h
    rfl
  · obtain ⟨st, l, c, t, B, L, n, rfl, S, hc, tg, b8, b17, l100, l481, n20, fin⟩ := h
    have sz : 1000000 ≤ sizeLine := by decide
    obtain ⟨ls, esp, l0, ej, lln, hls⟩ := lines_of tg
    have tlen : t.length ≤ 20000 := by
      have := tg.len
      have h2 : (n + 1) * (L + 1) ≤ 21 * 482 := Nat.mul_le_mul (by omega) (by omega)
      omega
    have lpos : 0 < ls.length := Nat.pos_of_ne_zero fun z => l0 (List.length_eq_zero_iff.mp z)
    refine ⟨_, pss_cons (ps_par (i := 2) (j := 3) (by rfl) scLSpo.nd rfl rfl (by decide) rfl rfl (pa_cons (pe_call GD (hr.mono (by decide)) rfl aD.m aD.k aD.b .nil pass0 (pa_cons (pv 0) (pa_cons pe_int pa_nil))) (pa_cons (pe_bm PySem.F.plainAttrs_str PySem.F.slot_str_split PySem.F.type_str_split mt_split (pv 1) (pa_cons pe_str pa_nil)) pa_nil)) (by rfl))
            (pss_cons (ps_set (i := 4) scLSpo.nd rfl (Or.inl rfl) (pe_call GD (hr.mono (by decide)) rfl aD.m aD.k aD.b .nil pass0 (pa_cons (pv 0) (pa_cons (pe_callB call_len_seq (by rfl) T.len PySem.boot_len (pa_cons (pv 3) pa_nil)) pa_nil))))
            (pss_cons (ps_if (pt_cmpR op_lt (pv 2) pe_int (nomark _)) (pss_cons (ps_set (i := 5) scLSpo.nd rfl (Or.inl rfl) (pe_call GD (hr.mono (by decide)) rfl aD.m aD.k aD.b .nil pass0 (pa_cons (pv 0) (pa_cons (pe_op op_add (pe_callB call_len_str (by rfl) T.len PySem.boot_len (pa_cons (pv 1) pa_nil)) pe_int) pa_nil))))
            (pss_cons (ps_set (i := 6) scLSpo.nd rfl (Or.inl rfl) (pe_call GP (hr.mono (by decide)) rfl aP.m aP.k aP.b .nil pass0 (pa_cons (pv 0) (pa_cons (pe_lst (pa_cons pe_str (pa_cons pe_str (pa_cons pe_str (pa_cons pe_str (pa_cons pe_str (pa_cons pe_str (pa_cons pe_str (pa_cons pe_str (pa_cons pe_str (pa_cons pe_str (pa_cons pe_str (pa_cons pe_str pa_nil))))))))))))) pa_nil))))
            (pss_one (ps_ret (pe_op op_add_str (pe_op op_add_str (pe_slice sl_str (pv 1) po_none (po_some (pv 5))) (pv 6)) (pe_slice sl_str (pv 1) (po_some (pe_op op_add (pv 5) (pe_call GD (hr.mono (by decide)) rfl aD.m aD.k aD.b .nil pass0 (pa_cons (pv 0) (pa_cons pe_int pa_nil))))) po_none)))))) (pss_nil))
            (pss_cons (ps_if (pt_cmpR op_eq (pv 2) pe_int (nomark _)) (pss_one (ps_ret (pe_join pe_str (pe_op op_cat (pe_op op_cat (pe_slice sl_list (pv 3) po_none (po_some (pv 4))) (pe_slice sl_list (pv 3) (po_some (pv 4)) (po_some (pe_op op_add (pv 4) pe_int)))) (pe_slice sl_list (pv 3) (po_some (pv 4)) po_none))))) (pss_nil))
            (pss_cons (ps_if (pt_cmpR op_eq (pv 2) pe_int (nomark _)) (pss_one (ps_ret (pe_join pe_str (pe_op op_cat (pe_slice sl_list (pv 3) po_none (po_some (pv 4))) (pe_slice sl_list (pv 3) (po_some (pe_op op_add (pv 4) pe_int)) po_none))))) (pss_nil))
            (pss_cons (ps_if (pt_cmpR op_eq (pv 2) pe_int (nomark _)) (pss_one (ps_ret (pe_join pe_str (pe_call GMixed (hr.mono (by decide)) rfl aMixed.m aMixed.k aMixed.b .nil pass0 (pa_cons (pv 0) (pa_cons (pv 3) pa_nil)))))) (pss_nil))
            (pss_cons (ps_set (i := 7) scLSpo.nd rfl (Or.inl rfl) (pe_lst (pa_cons pe_str (pa_cons pe_str (pa_cons pe_str (pa_cons pe_str (pa_cons pe_str (pa_cons pe_str (pa_cons pe_str (pa_cons pe_str pa_nil))))))))))
            (pss_cons (ps_expr (pe_bm PySem.F.plainAttrs_list PySem.F.slot_list_extend PySem.F.type_list_extend mt_extend (pv 7) (pa_cons (pe_lst (pa_cons pe_str (pa_cons pe_str (pa_cons pe_str (pa_cons pe_str (pa_cons pe_str (pa_cons pe_str pa_nil))))))) pa_nil)))
            (pss_cons (ps_expr (pe_bm PySem.F.plainAttrs_list PySem.F.slot_list_extend PySem.F.type_list_extend mt_extend (pv 7) (pa_cons (pe_lst (pa_cons pe_str (pa_cons pe_str pa_nil))) pa_nil)))
            (pss_cons (ps_expr (pe_bm PySem.F.plainAttrs_list PySem.F.slot_list_extend PySem.F.type_list_extend mt_extend (pv 7) (pa_cons (pe_lst (pa_cons pe_str (pa_cons pe_str (pa_cons pe_str (pa_cons pe_str (pa_cons pe_str (pa_cons pe_str pa_nil))))))) pa_nil)))
            (pss_one (ps_ret (pe_join pe_str (pe_op op_cat (pe_op op_cat (pe_slice sl_list (pv 3) po_none (po_some (pv 4))) (pe_lst (pa_cons (pe_call GP (hr.mono (by decide)) rfl aP.m aP.k aP.b .nil pass0 (pa_cons (pv 0) (pa_cons (pv 7) pa_nil))) pa_nil))) (pe_slice sl_list (pv 3) (po_some (pv 4)) po_none)))))))))))))), ?_⟩
    refine ⟨_, rfl, st, l, c, 8, rfl, S, by omega, by decide, by decide, fun way H1 w0 w8 B1 S1 => ?_⟩
    refine ⟨_, rfl, rfl, t, "\n", rfl, rfl, by decide +kernel, by omega, fun p hp => ?_⟩
    rw [esp]
    have t1 := same_mk (o := .lst (ls.map V.str)) hp
    have B2 := B1.trans (But.same t1)
    have S2 := S1.up t1
    have np := S1.ne_new hp
    have hp2 := upd_same (H := H1) (a := p) (o := .lst (ls.map V.str))
    generalize upd H1 p (.lst (ls.map V.str)) = H2 at B2 S2 hp2 ⊢
    refine ⟨_, _, rfl, ?_⟩
    refine ⟨_, rfl, _, rfl, p, _, rfl, .inl (SqL.of hp2), st, l, c + 1, _, rfl, S2, by omega, by rw [List.length_map]; omega, by rw [List.length_map]; omega, fun kk H3 k0 k1 B3 S3 => ?_⟩
    have hp3 := B3 _ _ hp2 np.1 np.2
    have B13 := B2.trans B3
    obtain ⟨k, rfl⟩ := Int.eq_ofNat_of_zero_le k0
    have kl : k < ls.length := by rw [List.length_map] at k1; omega
    have memT : ∀ l' ∈ ls.take k, LnOk B L l' := fun l' h => hls l' (List.mem_of_mem_take h)
    have memD : ∀ j, ∀ l' ∈ ls.drop j, LnOk B L l' := fun j l' h => hls l' (List.mem_of_mem_drop h)
    refine ⟨_, rfl, _, _, rfl, rfl, decide (way < 4), rfl, ?_⟩
    by_cases w4 : way < 4
    · refine iteY w4 ?_
      refine ⟨_, rfl, _, rfl, _, rfl, by omega, _, _, rfl, rfl, st, l, c + 1 + 1, _, rfl, S3, by omega, by omega, by omega, fun at' H4 a0 a1 B4 S4 => ?_⟩
      obtain ⟨a, rfl⟩ := Int.eq_ofNat_of_zero_le a0
      refine ⟨_, rfl, by show 12 ≤ sizeLine; decide, fun q hq => ?_⟩
      have nq := S4.ne_new hq
      have t5 := same_mk (o := .lst (signsL.map V.str)) hq
      refine .inl ⟨st, l, c + 1 + 1 + 1, q, signsL.map V.str, rfl, S4.up t5, by omega, upd_same, nq.1, nq.2, by decide, by decide, fun i x H5 hx B5 S5 => ?_⟩
      rw [List.getElem?_map] at hx
      obtain ⟨sg, hsg, rfl⟩ := Option.map_eq_some_iff.mp hx
      obtain ⟨sl1, sch⟩ := signs_ok sg (List.mem_of_getElem? hsg)
      have B15 := ((B13.trans B4).trans (But.same t5)).trans B5
      have e1 : (cutS t none (some (a : Int))).length ≤ 20000 := by
        rw [len_tl, tl_to, List.length_take, tl_len2]
        omega
      refine ⟨_, rfl, _, rfl, _, rfl, t, rfl, by omega, _, rfl, _, _, rfl, rfl, by omega, _, rfl, _, rfl, _, rfl, st, l, _, 2, rfl, S5, by omega, by decide, by decide, fun dd H6 d0 d1 B6 S6 => ?_⟩
      obtain ⟨d, rfl⟩ := Int.eq_ofNat_of_zero_le d0
      have ead : (a : Int) + (d : Int) = ((a + d : Nat) : Int) := by omega
      have e2 : (cutS t (some ((a + d : Nat) : Int)) none).length ≤ 20000 := by
        rw [len_tl, tl_from, List.length_drop, tl_len2]
        omega
      refine ⟨_, _, rfl, rfl, _, rfl, t, rfl, by omega, _, _, rfl, rfl, ?_, ?_⟩
      · rw [ead, str_add_len]
        omega
      · rw [ead]
        exact fin _ H6 _ (tg.sign sl1 sch (Nat.le_add_right a d) (tl_to t a) (tl_from t (a + d))) (B15.trans B6) S6 (by omega)
    refine iteN w4 ?_
    -- lines, joined
    have joined : ∀ (zs : List Str) (H4 : Hp) (c' : Nat), (∀ z ∈ zs, LnOk B L z ∨ LnOk 8 100 z) → zs.length ≤ n + 2 → But st l H H4 → Strm H4 st l c' → c' ≤ c + 30 → Q (.str (Txt.join "\n" zs)) H4 := fun zs H4 c' hz hn B4 S4 hc4 => by
      refine fin _ H4 c' (TG.of_lines (B := 2 * B + 1) (L := 2 * L + 1) (n := n + 1) hn fun z h => ?_) B4 S4 hc4
      rcases hz z h with g | g
      · exact g.le (by omega) (by omega)
      · exact g.le (by omega) (by omega)
    have sums : ∀ (zs : List Str), (∀ z ∈ zs, LnOk B L z ∨ LnOk 8 100 z) → zs.length ≤ n + 2 → (zs.map (·.length)).sum + zs.length * ("\n" : Str).length ≤ sizeLine := fun zs hz hn => by
      have := lines_sum (ls := zs) (L := 481) (fun z h => by
        rcases hz z h with g | g
        · have := g.ln
          omega
        · have := g.ln
          omega) (by decide) (by omega)
      omega
    refine ⟨_, rfl, rfl, ?_⟩
    rw [eq_int]
    refine ⟨_, rfl, ?_⟩
    by_cases w5 : way = 4
    · refine iteY w5 ?_
      obtain ⟨z2, ez2, l2, m2⟩ : ∃ z2 : List Str, cutV (ls.map V.str) (some (k : Int)) (some ((k : Int) + 1)) = z2.map V.str ∧ z2.length ≤ 1 ∧ ∀ z ∈ z2, LnOk B L z := by
        obtain ⟨j, e | e⟩ := cutM (ls.map V.str) k
        · exact ⟨(ls.drop j).take 1, by rw [e, List.map_take, List.map_drop], by rw [List.length_take]; omega, fun z hz => memD j z (List.mem_of_mem_take hz)⟩
        · exact ⟨[], e, Nat.zero_le _, fun z hz => by cases hz⟩
      refine ⟨⟨_, rfl⟩, _, rfl, _, rfl, _, rfl, p, _, rfl, SqL.of hp3, fun q1 hq1 => ?_⟩
      rw [cutT, ← List.map_take]
      have a1 := same_mk (o := .lst ((ls.take k).map V.str)) hq1
      refine ⟨_, rfl, _, rfl, _, rfl, _, rfl, _, _, rfl, rfl, _, rfl, p, _, rfl, SqL.of (a1 _ _ hp3), fun q2 hq2 => ?_⟩
      rw [ez2]
      have a2 := same_mk (o := .lst (z2.map V.str)) hq2
      refine ⟨q1, q2, _, _, rfl, rfl, a2 _ _ upd_same, upd_same, ?_, fun q3 hq3 => ?_⟩
      · rw [List.length_map, List.length_map, List.length_take]
        omega
      rw [← List.map_append]
      have a3 := same_mk (o := .lst ((ls.take k ++ z2).map V.str)) hq3
      have a12 := (a1.trans a2).trans a3
      refine ⟨_, rfl, _, rfl, _, rfl, p, _, rfl, SqL.of (a12 _ _ hp3), fun q4 hq4 => ?_⟩
      rw [cutD, ← List.map_drop]
      have a4 := same_mk (o := .lst ((ls.drop k).map V.str)) hq4
      refine ⟨q3, q4, _, _, rfl, rfl, a4 _ _ upd_same, upd_same, ?_, fun q5 hq5 => ?_⟩
      · rw [List.length_map, List.length_map, List.length_append, List.length_take, List.length_drop]
        omega
      rw [← List.map_append]
      have a5 := same_mk (o := .lst ((ls.take k ++ z2 ++ ls.drop k).map V.str)) hq5
      have a15 := (a12.trans a4).trans a5
      have all : ∀ z ∈ ls.take k ++ z2 ++ ls.drop k, LnOk B L z ∨ LnOk 8 100 z := fun z hz => .inl (by
        rcases List.mem_append.mp hz with hz | hz
        · rcases List.mem_append.mp hz with hz | hz
          · exact memT z hz
          · exact m2 z hz
        · exact memD k z hz)
      have len : (ls.take k ++ z2 ++ ls.drop k).length ≤ n + 2 := by
        rw [List.length_append, List.length_append, List.length_take, List.length_drop]
        omega
      exact ⟨_, q5, _, rfl, rfl, .inl (SqL.of upd_same), sums _ all len, joined _ _ _ all len (B13.trans (But.same a15)) (S3.up a15) (by omega)⟩
    refine iteN w5 ?_
    refine ⟨_, rfl, rfl, ?_⟩
    rw [eq_int]
    refine ⟨_, rfl, ?_⟩
    by_cases w6 : way = 5
    · refine iteY w6 ?_
      refine ⟨⟨_, rfl⟩, _, rfl, _, rfl, _, rfl, p, _, rfl, SqL.of hp3, fun q1 hq1 => ?_⟩
      rw [cutT, ← List.map_take]
      have a1 := same_mk (o := .lst ((ls.take k).map V.str)) hq1
      refine ⟨_, rfl, _, rfl, _, _, rfl, rfl, _, rfl, p, _, rfl, SqL.of (a1 _ _ hp3), fun q4 hq4 => ?_⟩
      rw [show (k : Int) + 1 = ((k + 1 : Nat) : Int) by omega, cutD, ← List.map_drop]
      have a4 := same_mk (o := .lst ((ls.drop (k + 1)).map V.str)) hq4
      refine ⟨q1, q4, _, _, rfl, rfl, a4 _ _ upd_same, upd_same, ?_, fun q5 hq5 => ?_⟩
      · rw [List.length_map, List.length_map, List.length_take, List.length_drop]
        omega
      rw [← List.map_append]
      have a5 := same_mk (o := .lst ((ls.take k ++ ls.drop (k + 1)).map V.str)) hq5
      have a15 := (a1.trans a4).trans a5
      have all : ∀ z ∈ ls.take k ++ ls.drop (k + 1), LnOk B L z ∨ LnOk 8 100 z := fun z hz => .inl (by
        rcases List.mem_append.mp hz with hz | hz
        · exact memT z hz
        · exact memD (k + 1) z hz)
      have len : (ls.take k ++ ls.drop (k + 1)).length ≤ n + 2 := by
        rw [List.length_append, List.length_take, List.length_drop]
        omega
      exact ⟨_, q5, _, rfl, rfl, .inl (SqL.of upd_same), sums _ all len, joined _ _ _ all len (B13.trans (But.same a15)) (S3.up a15) (by omega)⟩
    refine iteN w6 ?_
    refine ⟨_, rfl, rfl, ?_⟩
    rw [eq_int]
    refine ⟨_, rfl, ?_⟩
    by_cases w7 : way = 6
    · refine iteY w7 ?_
      refine ⟨⟨_, rfl⟩, _, rfl, _, rfl, Str, V.str, st, l, p, _, ls, rfl, S3, by omega, hp3, by omega, fun D ys H4 pm hD hD4 n1 n2 B4 S4 => ?_⟩
      have all : ∀ z ∈ ys, LnOk B L z ∨ LnOk 8 100 z := fun z hz => .inl (hls z (pm.mem_iff.mp hz))
      have len : ys.length ≤ n + 2 := by
        rw [pm.length_eq]
        omega
      exact ⟨_, D, ys, rfl, rfl, .inl (SqL.of hD4), sums _ all len, joined _ _ _ all len (B13.trans B4) S4 (by omega)⟩
    refine iteN w7 ?_
    refine ⟨by show 8 ≤ sizeLine; decide, fun D hD => ?_⟩
    have sD := same_mk (o := .lst [.str "", .str "read a : x", .str "read : \"x\"", .str "list  : ()", .str "list / : -", .str "list a : ()", .str "tool : -", .str "end : -"]) hD
    have hD3 : H3 D = none := hD
    have nD := S3.ne_new hD
    have hDv := upd_same (H := H3) (a := D) (o := .lst [.str "", .str "read a : x", .str "read : \"x\"", .str "list  : ()", .str "list / : -", .str "list a : ()", .str "tool : -", .str "end : -"])
    generalize hH0 : upd H3 D (.lst [.str "", .str "read a : x", .str "read : \"x\"", .str "list  : ()", .str "list / : -", .str "list a : ()", .str "tool : -", .str "end : -"]) = K0 at sD hDv ⊢
    refine ⟨_, rfl, .inl ⟨rfl, _, SqL.of hDv⟩, by show 6 ≤ sizeLine; decide, fun b1 hb1 => ?_⟩
    have sb1 := same_mk (o := .lst [.str "read a  : \"x\"", .str "read a : \"x\" ", .str "read a :\"x\"", .str "list / : ( )", .str "list / : (b a)", .str "read a : ()"]) hb1
    have ne1 : D ≠ b1 := fun e => by rw [← e, hDv] at hb1; cases hb1
    refine ⟨D, b1, [.str "", .str "read a : x", .str "read : \"x\"", .str "list  : ()", .str "list / : -", .str "list a : ()", .str "tool : -", .str "end : -"], [.str "read a  : \"x\"", .str "read a : \"x\" ", .str "read a :\"x\"", .str "list / : ( )", .str "list / : (b a)", .str "read a : ()"], rfl, rfl, sb1 _ _ hDv, upd_same, by show 14 ≤ sizeLine; decide, ?_⟩
    have hDv := upd_same (H := upd K0 b1 (.lst [.str "read a  : \"x\"", .str "read a : \"x\" ", .str "read a :\"x\"", .str "list / : ( )", .str "list / : (b a)", .str "read a : ()"])) (a := D) (o := .lst ([.str "", .str "read a : x", .str "read : \"x\"", .str "list  : ()", .str "list / : -", .str "list a : ()", .str "tool : -", .str "end : -"] ++ [.str "read a  : \"x\"", .str "read a : \"x\" ", .str "read a :\"x\"", .str "list / : ( )", .str "list / : (b a)", .str "read a : ()"]))
    have sD := same_ch (o := .lst ([.str "", .str "read a : x", .str "read : \"x\"", .str "list  : ()", .str "list / : -", .str "list a : ()", .str "tool : -", .str "end : -"] ++ [.str "read a  : \"x\"", .str "read a : \"x\" ", .str "read a :\"x\"", .str "list / : ( )", .str "list / : (b a)", .str "read a : ()"])) (sD.trans sb1) hD
    generalize upd (upd K0 b1 (.lst [.str "read a  : \"x\"", .str "read a : \"x\" ", .str "read a :\"x\"", .str "list / : ( )", .str "list / : (b a)", .str "read a : ()"])) D (.lst ([.str "", .str "read a : x", .str "read : \"x\"", .str "list  : ()", .str "list / : -", .str "list a : ()", .str "tool : -", .str "end : -"] ++ [.str "read a  : \"x\"", .str "read a : \"x\" ", .str "read a :\"x\"", .str "list / : ( )", .str "list / : (b a)", .str "read a : ()"])) = K1 at sD hDv ⊢
    have hDv : K1 D = some (.lst [.str "", .str "read a : x", .str "read : \"x\"", .str "list  : ()", .str "list / : -", .str "list a : ()", .str "tool : -", .str "end : -", .str "read a  : \"x\"", .str "read a : \"x\" ", .str "read a :\"x\"", .str "list / : ( )", .str "list / : (b a)", .str "read a : ()"]) := hDv
    refine ⟨_, rfl, .inl ⟨rfl, _, SqL.of hDv⟩, by show 2 ≤ sizeLine; decide, fun b2 hb2 => ?_⟩
    have sb2 := same_mk (o := .lst [.str "tool a : \"x\"", .str "list / : (a  b)"]) hb2
    have ne2 : D ≠ b2 := fun e => by rw [← e, hDv] at hb2; cases hb2
    refine ⟨D, b2, [.str "", .str "read a : x", .str "read : \"x\"", .str "list  : ()", .str "list / : -", .str "list a : ()", .str "tool : -", .str "end : -", .str "read a  : \"x\"", .str "read a : \"x\" ", .str "read a :\"x\"", .str "list / : ( )", .str "list / : (b a)", .str "read a : ()"], [.str "tool a : \"x\"", .str "list / : (a  b)"], rfl, rfl, sb2 _ _ hDv, upd_same, by show 16 ≤ sizeLine; decide, ?_⟩
    have hDv := upd_same (H := upd K1 b2 (.lst [.str "tool a : \"x\"", .str "list / : (a  b)"])) (a := D) (o := .lst ([.str "", .str "read a : x", .str "read : \"x\"", .str "list  : ()", .str "list / : -", .str "list a : ()", .str "tool : -", .str "end : -", .str "read a  : \"x\"", .str "read a : \"x\" ", .str "read a :\"x\"", .str "list / : ( )", .str "list / : (b a)", .str "read a : ()"] ++ [.str "tool a : \"x\"", .str "list / : (a  b)"]))
    have sD := same_ch (o := .lst ([.str "", .str "read a : x", .str "read : \"x\"", .str "list  : ()", .str "list / : -", .str "list a : ()", .str "tool : -", .str "end : -", .str "read a  : \"x\"", .str "read a : \"x\" ", .str "read a :\"x\"", .str "list / : ( )", .str "list / : (b a)", .str "read a : ()"] ++ [.str "tool a : \"x\"", .str "list / : (a  b)"])) (sD.trans sb2) hD
    generalize upd (upd K1 b2 (.lst [.str "tool a : \"x\"", .str "list / : (a  b)"])) D (.lst ([.str "", .str "read a : x", .str "read : \"x\"", .str "list  : ()", .str "list / : -", .str "list a : ()", .str "tool : -", .str "end : -", .str "read a  : \"x\"", .str "read a : \"x\" ", .str "read a :\"x\"", .str "list / : ( )", .str "list / : (b a)", .str "read a : ()"] ++ [.str "tool a : \"x\"", .str "list / : (a  b)"])) = K2 at sD hDv ⊢
    have hDv : K2 D = some (.lst [.str "", .str "read a : x", .str "read : \"x\"", .str "list  : ()", .str "list / : -", .str "list a : ()", .str "tool : -", .str "end : -", .str "read a  : \"x\"", .str "read a : \"x\" ", .str "read a :\"x\"", .str "list / : ( )", .str "list / : (b a)", .str "read a : ()", .str "tool a : \"x\"", .str "list / : (a  b)"]) := hDv
    refine ⟨_, rfl, .inl ⟨rfl, _, SqL.of hDv⟩, by show 6 ≤ sizeLine; decide, fun b3 hb3 => ?_⟩
    have sb3 := same_mk (o := .lst [.str "read a/ : \"x\"", .str "setting a/b : \"x\"", .str "list / : (a a/)", .str "list / : (a,b)", .str "look a : \"x\"", .str "end : \"x"]) hb3
    have ne3 : D ≠ b3 := fun e => by rw [← e, hDv] at hb3; cases hb3
    refine ⟨D, b3, [.str "", .str "read a : x", .str "read : \"x\"", .str "list  : ()", .str "list / : -", .str "list a : ()", .str "tool : -", .str "end : -", .str "read a  : \"x\"", .str "read a : \"x\" ", .str "read a :\"x\"", .str "list / : ( )", .str "list / : (b a)", .str "read a : ()", .str "tool a : \"x\"", .str "list / : (a  b)"], [.str "read a/ : \"x\"", .str "setting a/b : \"x\"", .str "list / : (a a/)", .str "list / : (a,b)", .str "look a : \"x\"", .str "end : \"x"], rfl, rfl, sb3 _ _ hDv, upd_same, by show 22 ≤ sizeLine; decide, ?_⟩
    have hDv := upd_same (H := upd K2 b3 (.lst [.str "read a/ : \"x\"", .str "setting a/b : \"x\"", .str "list / : (a a/)", .str "list / : (a,b)", .str "look a : \"x\"", .str "end : \"x"])) (a := D) (o := .lst ([.str "", .str "read a : x", .str "read : \"x\"", .str "list  : ()", .str "list / : -", .str "list a : ()", .str "tool : -", .str "end : -", .str "read a  : \"x\"", .str "read a : \"x\" ", .str "read a :\"x\"", .str "list / : ( )", .str "list / : (b a)", .str "read a : ()", .str "tool a : \"x\"", .str "list / : (a  b)"] ++ [.str "read a/ : \"x\"", .str "setting a/b : \"x\"", .str "list / : (a a/)", .str "list / : (a,b)", .str "look a : \"x\"", .str "end : \"x"]))
    have sD := same_ch (o := .lst ([.str "", .str "read a : x", .str "read : \"x\"", .str "list  : ()", .str "list / : -", .str "list a : ()", .str "tool : -", .str "end : -", .str "read a  : \"x\"", .str "read a : \"x\" ", .str "read a :\"x\"", .str "list / : ( )", .str "list / : (b a)", .str "read a : ()", .str "tool a : \"x\"", .str "list / : (a  b)"] ++ [.str "read a/ : \"x\"", .str "setting a/b : \"x\"", .str "list / : (a a/)", .str "list / : (a,b)", .str "look a : \"x\"", .str "end : \"x"])) (sD.trans sb3) hD
    generalize upd (upd K2 b3 (.lst [.str "read a/ : \"x\"", .str "setting a/b : \"x\"", .str "list / : (a a/)", .str "list / : (a,b)", .str "look a : \"x\"", .str "end : \"x"])) D (.lst ([.str "", .str "read a : x", .str "read : \"x\"", .str "list  : ()", .str "list / : -", .str "list a : ()", .str "tool : -", .str "end : -", .str "read a  : \"x\"", .str "read a : \"x\" ", .str "read a :\"x\"", .str "list / : ( )", .str "list / : (b a)", .str "read a : ()", .str "tool a : \"x\"", .str "list / : (a  b)"] ++ [.str "read a/ : \"x\"", .str "setting a/b : \"x\"", .str "list / : (a a/)", .str "list / : (a,b)", .str "look a : \"x\"", .str "end : \"x"])) = K3 at sD hDv ⊢
    have hDv : K3 D = some (.lst [.str "", .str "read a : x", .str "read : \"x\"", .str "list  : ()", .str "list / : -", .str "list a : ()", .str "tool : -", .str "end : -", .str "read a  : \"x\"", .str "read a : \"x\" ", .str "read a :\"x\"", .str "list / : ( )", .str "list / : (b a)", .str "read a : ()", .str "tool a : \"x\"", .str "list / : (a  b)", .str "read a/ : \"x\"", .str "setting a/b : \"x\"", .str "list / : (a a/)", .str "list / : (a,b)", .str "look a : \"x\"", .str "end : \"x"]) := hDv
    have hDo : K3 D = some (.lst (oddL.map V.str)) := hDv
    refine ⟨⟨_, rfl⟩, _, rfl, _, rfl, _, rfl, p, _, rfl, SqL.of (sD _ _ hp3), fun q1 hq1 => ?_⟩
    rw [cutT, ← List.map_take]
    have a1 := same_mk (o := .lst ((ls.take k).map V.str)) hq1
    have S4 := (S3.up sD).up a1
    refine ⟨_, rfl, _, rfl, .inl ⟨st, l, _, D, oddL.map V.str, rfl, S4, by omega, a1 _ _ hDo, nD.1, nD.2, by decide, by decide, fun i x H5 hx B5 S5 => ?_⟩⟩
    rw [List.getElem?_map] at hx
    obtain ⟨od, hod, rfl⟩ := Option.map_eq_some_iff.mp hx
    have gd := odd_ok od (List.mem_of_getElem? hod)
    have nq1 := (S3.up sD).ne_new hq1
    have h15 := B5 _ _ (upd_same (H := K3) (a := q1) (o := .lst ((ls.take k).map V.str))) nq1.1 nq1.2
    have hp5 := B5 _ _ (a1 _ _ (sD _ _ hp3)) np.1 np.2
    refine ⟨by show 1 ≤ sizeLine; decide, fun q2 hq2 => ?_⟩
    have a2 := same_mk (o := .lst [.str od]) hq2
    refine ⟨q1, q2, _, _, rfl, rfl, a2 _ _ h15, upd_same, ?_, fun q3 hq3 => ?_⟩
    · rw [List.length_map, List.length_take, List.length_singleton]
      omega
    rw [show (ls.take k).map V.str ++ [.str od] = (ls.take k ++ [od]).map V.str by rw [List.map_append]; rfl]
    have a3 := same_mk (o := .lst ((ls.take k ++ [od]).map V.str)) hq3
    refine ⟨_, rfl, _, rfl, _, rfl, p, _, rfl, SqL.of (a3 _ _ (a2 _ _ hp5)), fun q4 hq4 => ?_⟩
    rw [cutD, ← List.map_drop]
    have a4 := same_mk (o := .lst ((ls.drop k).map V.str)) hq4
    refine ⟨q3, q4, _, _, rfl, rfl, a4 _ _ upd_same, upd_same, ?_, fun q5 hq5 => ?_⟩
    · rw [List.length_map, List.length_map, List.length_append, List.length_take, List.length_drop, List.length_singleton]
      omega
    rw [← List.map_append]
    have a5 := same_mk (o := .lst ((ls.take k ++ [od] ++ ls.drop k).map V.str)) hq5
    have a25 := ((a2.trans a3).trans a4).trans a5
    have all : ∀ z ∈ ls.take k ++ [od] ++ ls.drop k, LnOk B L z ∨ LnOk 8 100 z := fun z hz => by
      rcases List.mem_append.mp hz with hz | hz
      · rcases List.mem_append.mp hz with hz | hz
        · exact .inl (memT z hz)
        · rw [List.mem_singleton.mp hz]
          exact .inr gd
      · exact .inl (memD k z hz)
    have len : (ls.take k ++ [od] ++ ls.drop k).length ≤ n + 2 := by
      rw [List.length_append, List.length_append, List.length_take, List.length_drop, List.length_singleton]
      omega
    exact ⟨_, q5, _, rfl, rfl, .inl (SqL.of upd_same), sums _ all len, joined _ _ _ all len (((B13.trans (But.same (sD.trans a1))).trans B5).trans (But.same a25)) (S5.up a25) (by omega)⟩
end
end K3

set_option maxHeartbeats 3900000
namespace K3
open PySem PySem.Spec PyProof.Rows L2 TL
open C8 (pss_cut tCut pe_gc)
open CB XW LE LR
abbrev sLAnTx : Stmt := top 77
abbrev sLRnTx : Stmt := top 78
theorem join2 (y a b : Str) : Txt.join y [a, b] = a ++ y ++ b := ext_tl (by
  rw [tl_tjoin, tl_append, tl_append, List.append_assoc]
  rfl)
theorem join1 (y a : Str) : Txt.join y [a] = a := ext_tl (by
  rw [tl_tjoin]
  rfl)
theorem join_lk {k : Lk} (h : k ≠ .ls []) : Txt.join " " (lkS k) = lkT k := by
  cases k with
  | rd p => exact join2 _ _ _
  | ls p =>
    have e : p ≠ [] := fun e => h (by rw [e])
    show Txt.join " " ["list", js p] = wdT (.ls p) ++ " " ++ (if p = [] then ("/" : Str) else js p)
    rw [if_neg e, join2]
    rfl
  | se n => exact join2 _ _ _
  | tl => exact join1 _ _
theorem begin_ls : ("list /" : Str) = lkT (.ls []) := by decide +kernel
theorem begin_len {k : Lk} (h : LkOk k) : ((lkS k).map (·.length)).sum + (lkS k).length * 1 ≤ 2000 := by
  have := pt_len h
  obtain ⟨w1, w2, w3, w4⟩ := wd_lens
  cases k with
  | rd p => show (("read" : Str).length + ((js p).length + 0)) + 2 * 1 ≤ 2000; have : (js p).length ≤ 1000 := this; omega
  | ls p => show (("list" : Str).length + ((js p).length + 0)) + 2 * 1 ≤ 2000; have : (js p).length ≤ 1000 := this; omega
  | se n => show (("setting" : Str).length + (n.length + 0)) + 2 * 1 ≤ 2000; have : n.length ≤ 1000 := this; omega
  | tl => show (("tool" : Str).length + 0) + 1 * 1 ≤ 2000; omega
theorem end_lit (y : Str) : ("end : \"" : Str) ++ y ++ "\"" = endT y := ext_tl (by
  show _ = tl ("end" ++ " : " ++ ("\"" ++ y ++ "\"") : Str)
  simp only [tl_append]
  rw [show tl ("end : \"" : Str) = tl ("end" : Str) ++ tl (" : " : Str) ++ tl ("\"" : Str) from by decide +kernel]
  simp only [List.append_assoc])
def spLRnTx : Sp := fun vs H Q _ => ∃ D y sg, vs = [.ref D, .str y] ∧ SisL H D sg ∧ (∀ s ∈ sg, LkOk s.1 ∧ GoodA s.2) ∧ sg.length ≤ 20 ∧ y.length ≤ 1000 ∧ ∀ H', Same H H' → Q (.str (runT sg y)) H'
section
variable {P : Program} {w : World} {K : PySem.W.Frag} {mg : Str → Option Value} {base : Heap}
theorem scLAnTx : FnScope ["_law_answer"] ["_law_answer"] (defScope sLAnTx) := ⟨rfl, rfl, rfl, by decide +kernel, rfl, by decide +kernel, by decide +kernel⟩
theorem ok_lantx {f : Addr} {fd : FuncData} (F : Fun K "_law_answer_text" "_law_answer_text" sLAnTx f fd) (T : TB mg) : FnOk P w K mg base CX0 1 f fd ["_law_answer"] spAnTx := by
  refine F.ok scLAnTx (fun vs H Q E h => ?_) (fun cdv A outer s H vs Q E hr h => ?_)
  · obtain ⟨v, a, rfl, _⟩ := h
    rfl
  · obtain ⟨v, a, rfl, ha, ga, fin⟩ := h
    refine ⟨_, pss_cons (ps_if (pt_cmp (pc_isN (pv 0))) (pss_one (ps_ret pe_str)) (pss_nil))
            (pss_one (ps_ret (pe_ifExp (pt_val (pe_callB call_isi (by rfl) T.isinstance (by decide +kernel) (pa_cons (pv 0) (pa_cons (pe_bltn (v := .ty "str") (by rfl) T.str (by decide +kernel) rfl) pa_nil)))) (pe_op op_add_str (pe_op op_add_str pe_str (pv 0)) pe_str) (pe_op op_add_str (pe_op op_add_str pe_str (pe_join pe_str (pv 0))) pe_str)))), ?_⟩
    have sz : 1100 ≤ sizeLine := by decide
    cases a with
    | no =>
      obtain rfl : v = .non := ha
      exact ⟨_, rfl, _, rfl, iteT fin⟩
    | tx z =>
      obtain rfl : v = .str z := ha
      have zl := ga.2
      obtain ⟨_, l2, _⟩ := lit_len
      refine ⟨_, rfl, _, rfl, iteF ⟨_, rfl, _, _, .type "str", .type "str", true, rfl, .ty "str", .base (.str _), kit_ty (by decide +kernel), _, rfl, iteT ⟨_, rfl, _, _, rfl, rfl, by rw [l2]; omega, _, _, rfl, rfl, by rw [str_add_len, l2]; omega, fin⟩⟩⟩
    | es l =>
      obtain ⟨q, rfl, hq⟩ := ha
      obtain ⟨_, _, l3, l4, l5, _⟩ := lit_len
      have es := es_sum ga.1 ga.2
      have jl2 := join_len " " (eS l)
      rw [l5] at jl2
      rw [ents_V] at hq
      refine ⟨_, rfl, _, rfl, iteF ⟨_, rfl, _, _, .type "tuple", .type "str", false, rfl, .ty "str", .base (.tup hq), kit_ty (by decide +kernel), _, rfl, iteF ?_⟩⟩
      exact ⟨⟨_, rfl⟩, _, rfl, _, q, eS l, rfl, rfl, .inr (SqT.of hq), by rw [l5]; omega, _, _, rfl, rfl, by rw [l3]; omega, _, _, rfl, rfl, by rw [str_add_len, l3, l4]; omega, fin⟩
theorem scLRnTx : FnScope ["_law_sights", "_law_outcome", "_law_lines", "_law_look_here", "_law_answer", "_law_begin"] ["_law_sights", "_law_outcome"] (defScope sLRnTx) := ⟨rfl, rfl, rfl, by decide +kernel, rfl, by decide +kernel, by decide +kernel⟩
theorem ok_lrntx {f fA : Addr} {fd fdA : FuncData} (F : Fun K "_law_run_text" "_law_run_text" sLRnTx f fd) (T : TB mg) (aLAnTx : At K mg "_law_answer_text" fA fdA ["_law_answer"]) (GLAnTx : FnOk P w K mg base CX0 1 fA fdA ["_law_answer"] spAnTx) : FnOk P w K mg base CX0 2 f fd ["_law_sights", "_law_outcome"] spLRnTx := by
  refine F.ok scLRnTx (fun vs H Q E h => ?_) (fun cdv A outer s H vs Q E hr h => ?_)
  · obtain ⟨D, y, sg, rfl, _⟩ := h
    rfl
  · obtain ⟨D, y, sg, rfl, ⟨vs, hD, vl, hvs⟩, ok, ln, yl, fin⟩ := h
    have hu := hr.units
    have sz : 1000000 ≤ sizeLine := by decide
    obtain ⟨l1, l2, l3, l4, l5, l6, l7, l8⟩ := lit_len
    refine ⟨_, pss_cons (ps_set (i := 2) scLRnTx.nd rfl (Or.inl rfl) (pe_lst pa_nil))
            (pss_cons (ps_for PassesOwn.never rfl (pi_list (pv 0)) (pg_tup rfl (pgs_cons (pg_name (i := 3) scLRnTx.nd rfl (Or.inl rfl)) (pgs_cons (pg_name (i := 4) scLRnTx.nd rfl (Or.inl rfl)) pgs_nil))) (pss_cons (ps_set (i := 5) scLRnTx.nd rfl (Or.inl rfl) (pe_ifExp (pt_cmpR (op_eqD hu) (pv 3) (pe_tup (pa_cons pe_str (pa_cons pe_str pa_nil))) (nomark _)) pe_str (pe_join pe_str (pv 3))))
            (pss_one (ps_expr (pe_bm PySem.F.plainAttrs_list PySem.F.slot_list_append PySem.F.type_list_append mt_append (pv 2) (pa_cons (pe_op op_add_str (pe_op op_add_str (pv 5) pe_str) (pe_call GLAnTx (hr.mono (by decide)) rfl aLAnTx.m aLAnTx.k aLAnTx.b .nil pass0 (pa_cons (pv 4) pa_nil))) pa_nil))))))
            (pss_one (ps_ret (pe_join pe_str (pe_op op_cat (pv 2) (pe_lst (pa_cons (pe_op op_add_str (pe_op op_add_str pe_str (pv 1)) pe_str) pa_nil))))))), ?_⟩
    refine ⟨by show 0 ≤ sizeLine; decide, fun L hL => ?_⟩
    have s1 := same_mk (o := .lst []) hL
    have hL1 := upd_same (H := H) (a := L) (o := .lst [])
    generalize upd H L (.lst []) = H1 at s1 hL1 ⊢
    refine ⟨_, rfl, D, rfl, ⟨_, SqL.of (s1 _ _ hD)⟩, for_list (K := K) (a := D) (xs := vs) (fun j σ H' => ∃ x3 x4 x5, σ = [some (.ref D), some (.str y), some (.ref L), x3, x4, x5] ∧ Same H H' ∧ H' L = some (.lst (((sg.take j).map lineT).map V.str)))
      ⟨_, _, _, rfl, s1, hL1⟩ (fun j σ H' _ q => by obtain ⟨_, _, _, _, s, _⟩ := q; exact SqL.of (s _ _ hD)) ?_ ?_⟩
    · rintro j v _ H2 hv ⟨x3, x4, x5, rfl, s2, hL2⟩
      have lj : j < sg.length := by rw [← vl]; exact (List.getElem?_eq_some_iff.mp hv).1
      have hsj : sg[j]? = some sg[j] := List.getElem?_eq_getElem lj
      obtain ⟨t, u, va, rfl, h1, h2, h3⟩ := (hvs j v sg[j] hv hsj).up s2
      have okj := ok sg[j] (List.mem_of_getElem? hsj)
      have kl := lk_len okj.1
      have al := an_len okj.2
      refine ⟨t, _, rfl, SqT.of h1, rfl, _, _, rfl, _, _, rfl, rfl, ?_⟩
      have main : ∀ H3, Same H2 H3 → ∀ x5, ∃ L0 xs v0, V.ref L = .ref L0 ∧ [V.str (lineT sg[j])] = [v0] ∧ H3 L0 = some (.lst xs) ∧ xs.length < sizeLine ∧ ∃ y3 y4 y5, [some (V.ref D), some (V.str y), some (V.ref L), some (V.ref u), some va, x5] = [some (V.ref D), some (V.str y), some (V.ref L), y3, y4, y5] ∧ Same H (upd H3 L0 (.lst (xs ++ [v0]))) ∧ upd H3 L0 (.lst (xs ++ [v0])) L = some (.lst (((sg.take (j + 1)).map lineT).map V.str)) := fun H3 s3 x5 => by
        refine ⟨L, _, _, rfl, rfl, s3 _ _ hL2, ?_, _, _, _, rfl, same_ch (s2.trans s3) hL, ?_⟩
        · rw [List.length_map, List.length_map, List.length_take]
          omega
        · rw [upd_same, List.take_succ, hsj, List.map_append, List.map_append]
          rfl
      have okw := LkOk.w okj.1
      refine ⟨_, rfl, by show 2 ≤ sizeLine; decide, fun q hq => ?_⟩
      have s3 := same_mk (o := .tup [.str "list", .str ""]) hq
      have hq2 := upd_same (H := H2) (a := q) (o := .tup [.str "list", .str ""])
      have hq3 : upd H2 q (.tup [.str "list", .str ""]) q = some (.tup (lkV (.ls []))) := hq2
      generalize upd H2 q (.tup [.str "list", .str ""]) = H3 at s3 hq3 ⊢
      have w0 : LkW (.ls []) := LkOk.w (k := .ls []) ⟨(fun y hy => by cases hy), by decide⟩
      refine ⟨lkD sg[j].1, lkD (.ls []), lk_dp (s3 _ _ h2), lk_dp hq3, lkD_shaped okw, lkD_shaped w0, ?_⟩
      rw [eqv_lk okw w0]
      have hL3 := s3 _ _ hL2
      by_cases e : sg[j].1 = .ls []
      · refine ⟨_, rfl, iteY e ?_⟩
        refine ⟨_, rfl, .inl ⟨rfl, _, SqL.of hL3⟩, _, rfl, _, _, rfl, rfl, ?_, _, rfl, va, sg[j].2, rfl, h3.up s3, okj.2, _, _, rfl, rfl, ?_, ?_⟩
        · rw [begin_ls, ← e, l1]
          omega
        · rw [str_add_len, begin_ls, ← e, l1]
          omega
        · have m := main H3 s3 (some (.str "list /"))
          have e2 : lineT sg[j] = "list /" ++ " : " ++ anT sg[j].2 := by
            unfold lineT
            rw [e, begin_ls]
          rw [e2] at m
          exact m
      · refine ⟨_, rfl, iteN e ?_⟩
        have jl := begin_len okj.1
        refine ⟨⟨_, rfl⟩, _, rfl, " ", u, lkS sg[j].1, rfl, rfl, .inr (SqT.of (by rw [← lkV_S]; exact s3 _ _ h2)), by rw [l5]; omega, ?_⟩
        rw [join_lk e]
        exact ⟨_, rfl, .inl ⟨rfl, _, SqL.of hL3⟩, _, rfl, _, _, rfl, rfl, by rw [l1]; omega, _, rfl, va, sg[j].2, rfl, h3.up s3, okj.2, _, _, rfl, rfl, by rw [str_add_len, l1]; omega, main H3 s3 _⟩
    · rintro _ H2 ⟨x3, x4, x5, rfl, s2, hL2⟩
      rw [vl, List.take_length] at hL2
      have le := end_len yl
      have l9 : ("end : \"" : Str).length = 7 := by decide +kernel
      refine ⟨⟨_, rfl⟩, _, rfl, _, rfl, _, _, rfl, rfl, by rw [l9]; omega, _, _, rfl, rfl, by rw [str_add_len, l9, l2]; omega, by show 1 ≤ sizeLine; decide, fun B hB => ?_⟩
      rw [end_lit]
      have s3 := same_mk (o := .lst [.str (endT y)]) hB
      have hB2 := upd_same (H := H2) (a := B) (o := .lst [.str (endT y)])
      refine ⟨L, B, _, _, rfl, rfl, s3 _ _ hL2, hB2, by rw [List.length_map, List.length_map]; show sg.length + 1 ≤ sizeLine; omega, fun C hC => ?_⟩
      have s4 := same_mk (o := .lst (((sg.map lineT).map V.str) ++ [.str (endT y)])) hC
      have e : ((sg.map lineT).map V.str) ++ [.str (endT y)] = (sg.map lineT ++ [endT y]).map V.str := by
        rw [List.map_append]
        rfl
      refine ⟨_, C, sg.map lineT ++ [endT y], rfl, rfl, .inl (SqL.of (by rw [upd_same, e])), ?_, fin _ ((s2.trans s3).trans s4)⟩
      have := run_sum ok ln yl
      rw [l8]
      omega
end
end K3

set_option maxHeartbeats 3900000
namespace K3
open PySem PySem.Spec PyProof.Rows L2 TL
open CB XW LE LR RP FI
def Tx (z : Str) : Prop := 10 ∉ tl z ∧ z.length ≤ 20 ∧ wt (wc 47) (tl z) ≤ 1 ∧ wt (wc 32) (tl z) ≤ 1 ∧ ∀ c ∈ tl z, c < 128
instance (z : Str) : Decidable (Tx z) := by unfold Tx; infer_instance
theorem tx_texts : ∀ t ∈ texts, Tx t := by decide +kernel
theorem tx_tools : ∀ t ∈ tools, Tx t := by decide +kernel
def AnX : An → Prop
  | .no => True
  | .tx z => Tx z
  | .es l => (∀ e ∈ l, IsNm e.1) ∧ l.length ≤ 6
theorem tru_x {zs : List Str} {fs : Fs} {ss : Ss} {z : Str} {k : Lk} {a : An} (h : Tru fs ss z (k, a)) (ok : SiOk (k, a)) (as : AnS a) (g : GoodF zs fs) (gs : GoodS zs ss) (tz : z ∈ tools) : AnX a := by
  have es : ∀ l, a = .es l → AnX a := fun l e => by
    subst e
    refine ⟨?_, as⟩
    cases k with
    | ls q => exact ok.2.1.1
    | rd q => exact absurd ok.2 (by simp [AnOk])
    | se q => exact absurd ok.2 (by simp [AnOk])
    | tl => exact absurd ok.2 (by simp [AnOk])
  cases a with
  | no => trivial
  | es l => exact es l rfl
  | tx t =>
    show Tx t
    cases k with
    | rd q =>
      have h : An.tx t = oA (fOf fs q) := h
      cases e : fOf fs q with
      | none =>
        rw [e] at h
        cases h
      | some x =>
        rw [e] at h
        cases h
        obtain ⟨x, hx, _, e2⟩ := fOf_some e
        rw [← e2]
        exact tx_texts _ (g.text x hx)
    | se q =>
      have h : An.tx t = oA (sOf ss q) := h
      cases e : sOf ss q with
      | none =>
        rw [e] at h
        cases h
      | some x =>
        rw [e] at h
        cases h
        obtain ⟨x, hx, _, e2⟩ := sOf_some e
        rw [← e2]
        exact tx_texts _ (gs.text x hx)
    | tl =>
      have h : An.tx t = .tx z := h
      cases h
      exact tx_tools _ tz
    | ls q => exact absurd ok.2 (by simp [AnOk])
theorem AnX.good {a : An} (h : AnX a) : GoodA a := by
  cases a with
  | no => trivial
  | tx z => exact ⟨h.1, Nat.le_trans h.2.1 (by decide)⟩
  | es l => exact ⟨h.1, Nat.le_trans h.2 (by decide)⟩
theorem wt_joinL (f : Nat → Nat) (s B : Nat) : ∀ {ps : List (List Nat)}, (∀ p ∈ ps, wt f p ≤ B) → wt f (joinL [s] ps) ≤ ps.length * B + (ps.length - 1) * f s
  | [], _ => by simp [joinL, wt_nil]
  | [p], h => by
    have := h p List.mem_cons_self
    show wt f p ≤ 1 * B + 0 * f s
    omega
  | p :: q :: r, h => by
    have h1 := h p List.mem_cons_self
    have ih := wt_joinL f s B (ps := q :: r) fun x hx => h x (List.mem_cons_of_mem _ hx)
    show wt f (p ++ ([s] ++ joinL [s] (q :: r))) ≤ _
    rw [wt_app, wt_app, wt_cons, wt_nil]
    simp only [List.length_cons, Nat.add_sub_cancel, Nat.succ_mul] at ih ⊢
    omega
theorem wt_zero {f : Nat → Nat} {t : List Nat} (h : ∀ c ∈ t, f c = 0) : wt f t = 0 := by
  induction t with
  | nil => rfl
  | cons c r ih => rw [wt_cons, h c List.mem_cons_self, ih fun x hx => h x (List.mem_cons_of_mem _ hx)]
theorem nm_wt {n : Str} (h : IsNm n) {d : Nat} (hd : d < 97) : wt (wc d) (tl n) = 0 := wt_zero fun c hc => by
  have := h.2.2 c hc
  unfold wc
  exact if_neg (by omega)
theorem js_wt {p : List Str} (h : Nms p) (l : p.length ≤ 3) : wt (wc 47) (tl (js p)) ≤ 2 ∧ wt (wc 32) (tl (js p)) = 0 ∧ (js p).length ≤ 27 := by
  refine ⟨?_, ?_, ?_⟩
  · rw [tl_js]
    have := wt_joinL (wc 47) 47 0 (ps := p.map tl) fun x hx => by
      obtain ⟨y, hy, rfl⟩ := List.mem_map.mp hx
      rw [nm_wt (h y hy) (by decide)]
      exact Nat.le_refl 0
    rw [List.length_map, show wc 47 47 = 1 from rfl] at this
    show wt (wc 47) (joinL [47] (p.map tl)) ≤ 2
    omega
  · rw [tl_js]
    have := wt_joinL (wc 32) 47 0 (ps := p.map tl) fun x hx => by
      obtain ⟨y, hy, rfl⟩ := List.mem_map.mp hx
      rw [nm_wt (h y hy) (by decide)]
      exact Nat.le_refl 0
    rw [List.length_map, show wc 32 47 = 0 from rfl] at this
    show wt (wc 32) (joinL [47] (p.map tl)) = 0
    omega
  · have := js_len h
    omega
theorem wd_wt : ∀ k, wt (wc 47) (tl (wdT k)) = 0 ∧ wt (wc 32) (tl (wdT k)) = 0 ∧ (wdT k).length ≤ 7 := by
  intro k
  have : ∀ w ∈ (["read", "list", "setting", "tool"] : List Str), wt (wc 47) (tl w) = 0 ∧ wt (wc 32) (tl w) = 0 ∧ w.length ≤ 7 := by decide +kernel
  cases k
  · exact this "read" (by simp)
  · exact this "list" (by simp)
  · exact this "setting" (by simp)
  · exact this "tool" (by simp)
theorem lit_wt : tl (" " : Str) = [32] ∧ tl (" : " : Str) = [32, 58, 32] ∧ wt (wc 47) (tl ("/" : Str)) = 1 ∧ wt (wc 32) (tl ("/" : Str)) = 0 ∧ ("/" : Str).length = 1 ∧ tl ("tool" : Str) = tl (wdT .tl) := by decide +kernel
theorem wh_wt {zs : List Str} {k : Lk} (ok : LkOn zs 3 k) (nm : ∀ y ∈ zs, IsNm y) : wt (wc 47) (tl (whT k)) ≤ 2 ∧ wt (wc 32) (tl (whT k)) = 0 ∧ (whT k).length ≤ 27 := by
  cases k with
  | rd p => exact js_wt (fun y hy => nm y (ok.2.2 y hy)) ok.2.1
  | ls p =>
    have h := js_wt (fun y hy => nm y (ok.2 y hy)) ok.1
    show wt (wc 47) (tl (if p = [] then ("/" : Str) else js p)) ≤ 2 ∧ wt (wc 32) (tl (if p = [] then ("/" : Str) else js p)) = 0 ∧ (if p = [] then ("/" : Str) else js p).length ≤ 27
    obtain ⟨_, _, a, b, c, _⟩ := lit_wt
    by_cases e : p = []
    · rw [if_pos e, a, b, c]
      decide
    · rw [if_neg e]
      exact h
  | se n =>
    have h : IsNm n := nm n ok
    refine ⟨?_, nm_wt h (by decide), Nat.le_trans h.2.1 (by decide)⟩
    show wt (wc 47) (tl n) ≤ 2
    rw [nm_wt h (by decide)]
    decide
  | tl => exact ⟨by decide, by decide, by decide⟩
theorem lk_wt {zs : List Str} {k : Lk} (ok : LkOn zs 3 k) (nm : ∀ y ∈ zs, IsNm y) : wt (wc 47) (tl (lkT k)) ≤ 2 ∧ wt (wc 32) (tl (lkT k)) ≤ 1 ∧ (lkT k).length ≤ 35 := by
  obtain ⟨a1, a2, a3⟩ := wh_wt ok nm
  obtain ⟨b1, b2, b3⟩ := wd_wt k
  obtain ⟨c1, _, _, _, _, c6⟩ := lit_wt
  unfold lkT
  by_cases e : k = .tl
  · rw [if_pos e, c6]
    obtain ⟨d1, d2, d3⟩ := wd_wt .tl
    have d4 : ("tool" : Str).length ≤ 7 := d3
    omega
  · rw [if_neg e, len_tl]
    simp only [tl_append, wt_app, List.length_append, c1, ← len_tl]
    rw [show wt (wc 47) [32] = 0 from rfl, show wt (wc 32) [32] = 1 from rfl]
    simp only [List.length_cons, List.length_nil]
    omega
theorem q_wt : ∀ z ∈ (["-", "\"", "(", ")"] : List Str), wt (wc 47) (tl z) = 0 ∧ wt (wc 32) (tl z) = 0 ∧ z.length = 1 ∧ ∀ c ∈ tl z, c < 128 := by decide +kernel
theorem ent_wt {n : Str} (h : IsNm n) (b : Bool) : wt (wc 47) (tl (ent n b)) ≤ 1 ∧ wt (wc 32) (tl (ent n b)) ≤ 0 ∧ wt w1 (tl (ent n b)) ≤ 9 := by
  rw [tl_ent, wt_app, wt_app, wt_app, nm_wt h (by decide), nm_wt h (by decide), wt_w1, ← len_tl]
  have := h.2.1
  cases b
  · refine ⟨by decide, by decide, ?_⟩
    show n.length + 0 ≤ 9
    omega
  · refine ⟨by decide, by decide, ?_⟩
    show n.length + 1 ≤ 9
    omega
theorem an_wt {a : An} (h : AnX a) : wt (wc 47) (tl (anT a)) ≤ 6 ∧ wt (wc 32) (tl (anT a)) ≤ 5 ∧ (anT a).length ≤ 62 ∧ ∀ c ∈ tl (anT a), c < 128 := by
  obtain ⟨m1, m2, m3, m4⟩ := q_wt "-" (by simp)
  obtain ⟨p1, p2, p3, p4⟩ := q_wt "\"" (by simp)
  obtain ⟨r1, r2, r3, r4⟩ := q_wt "(" (by simp)
  obtain ⟨s1, s2, s3, s4⟩ := q_wt ")" (by simp)
  cases a with
  | no =>
    show wt (wc 47) (tl ("-" : Str)) ≤ 6 ∧ wt (wc 32) (tl ("-" : Str)) ≤ 5 ∧ ("-" : Str).length ≤ 62 ∧ ∀ c ∈ tl ("-" : Str), c < 128
    exact ⟨by omega, by omega, by omega, m4⟩
  | tx z =>
    obtain ⟨_, h2, h3, h4, h5⟩ := h
    have e : anT (.tx z) = "\"" ++ z ++ "\"" := rfl
    rw [e]
    refine ⟨?_, ?_, ?_, fun c hc => ?_⟩
    · rw [tl_append, tl_append, wt_app, wt_app]
      omega
    · rw [tl_append, tl_append, wt_app, wt_app]
      omega
    · rw [str_add_len, str_add_len]
      omega
    · rw [tl_append, tl_append] at hc
      rcases List.mem_append.mp hc with hc | hc
      · rcases List.mem_append.mp hc with hc | hc
        · exact p4 c hc
        · exact h5 c hc
      · exact p4 c hc
  | es l =>
    obtain ⟨h1, h2⟩ := h
    have e : anT (.es l) = "(" ++ Txt.join " " (eS l) ++ ")" := rfl
    have ej : tl (Txt.join " " (eS l)) = joinL [32] ((eS l).map tl) := by rw [tl_tjoin, lit_wt.1]
    have ll : ((eS l).map tl).length ≤ 6 := by
      rw [List.length_map, List.length_map]
      exact h2
    have mem : ∀ x ∈ (eS l).map tl, wt (wc 47) x ≤ 1 ∧ wt (wc 32) x ≤ 0 ∧ wt w1 x ≤ 9 := fun x hx => by
      obtain ⟨y, hy, rfl⟩ := List.mem_map.mp hx
      obtain ⟨e, he, rfl⟩ := List.mem_map.mp hy
      exact ent_wt (h1 e he) e.2
    have j1 := wt_joinL (wc 47) 32 1 fun x hx => (mem x hx).1
    have j2 := wt_joinL (wc 32) 32 0 fun x hx => (mem x hx).2.1
    have j3 := wt_joinL w1 32 9 fun x hx => (mem x hx).2.2
    rw [show wc 47 32 = 0 from rfl, ← ej] at j1
    rw [show wc 32 32 = 1 from rfl, ← ej] at j2
    rw [show w1 32 = 1 from rfl, ← ej, wt_w1, ← len_tl] at j3
    rw [e]
    refine ⟨?_, ?_, ?_, fun c hc => ?_⟩
    · rw [tl_append, tl_append, wt_app, wt_app]
      omega
    · rw [tl_append, tl_append, wt_app, wt_app]
      omega
    · rw [str_add_len, str_add_len]
      omega
    · rw [tl_append, tl_append] at hc
      rcases List.mem_append.mp hc with hc | hc
      · rcases List.mem_append.mp hc with hc | hc
        · exact r4 c hc
        · rw [ej] at hc
          rcases mem_joinL hc with hc | ⟨x, hx, hc⟩
          · rw [List.mem_singleton.mp hc]
            decide
          · obtain ⟨y, hy, rfl⟩ := List.mem_map.mp hx
            obtain ⟨e, he, rfl⟩ := List.mem_map.mp hy
            have := ent_chars (h1 e he) e.2 c hc
            omega
      · exact s4 c hc
theorem line_ok {zs : List Str} {s : Sg} (ok : LkOn zs 3 s.1) (nm : ∀ y ∈ zs, IsNm y) (lk : LkOk s.1) (h : AnX s.2) : LnOk 8 240 (lineT s) := by
  obtain ⟨a1, a2, a3⟩ := lk_wt ok nm
  obtain ⟨b1, b2, b3, b4⟩ := an_wt h
  obtain ⟨_, c2, _⟩ := lit_wt
  have e : lineT s = lkT s.1 ++ " : " ++ anT s.2 := rfl
  refine ⟨no10l lk h.good, ?_, ?_, ?_, fun c hc => ?_⟩
  · rw [e, tl_append, tl_append, wt_app, wt_app, c2, show wt (wc 47) [32, 58, 32] = 0 from rfl]
    omega
  · rw [e, tl_append, tl_append, wt_app, wt_app, c2, show wt (wc 32) [32, 58, 32] = 2 from rfl]
    omega
  · rw [e, str_add_len, str_add_len, lit_len.1]
    omega
  · rw [e, tl_append, tl_append, c2] at hc
    rcases List.mem_append.mp hc with hc | hc
    · rcases List.mem_append.mp hc with hc | hc
      · have := lk_chars lk c hc
        omega
      · simp at hc
        omega
    · exact b4 c hc
theorem ends_ok : ∀ y ∈ texts, LnOk 8 240 (endT y) := by
  have : ∀ y ∈ texts, 10 ∉ tl (endT y) ∧ wt (wc 47) (tl (endT y)) ≤ 8 ∧ wt (wc 32) (tl (endT y)) ≤ 8 ∧ (endT y).length ≤ 240 ∧ ∀ c ∈ tl (endT y), c < 128 := by decide +kernel
  exact fun y hy => ⟨(this y hy).1, (this y hy).2.1, (this y hy).2.2.1, (this y hy).2.2.2.1, (this y hy).2.2.2.2⟩
abbrev begT : Str := "read zz : \"x\"\nlist zz : (a)\n"
theorem beg_ok : (∀ z ∈ (["read zz : \"x\"", "list zz : (a)"] : List Str), LnOk 8 240 z) ∧ tl begT = tl ("read zz : \"x\"" : Str) ++ [10] ++ (tl ("list zz : (a)" : Str) ++ [10]) ∧ begT.length ≤ 40 := by
  have : ∀ z ∈ (["read zz : \"x\"", "list zz : (a)"] : List Str), 10 ∉ tl z ∧ wt (wc 47) (tl z) ≤ 8 ∧ wt (wc 32) (tl z) ≤ 8 ∧ z.length ≤ 240 ∧ ∀ c ∈ tl z, c < 128 := by decide +kernel
  exact ⟨fun z hz => ⟨(this z hz).1, (this z hz).2.1, (this z hz).2.2.1, (this z hz).2.2.2.1, (this z hz).2.2.2.2⟩, by decide +kernel, by decide +kernel⟩
theorem beg_join {L : List Str} (h : L ≠ []) : begT ++ Txt.join "\n" L = Txt.join "\n" ("read zz : \"x\"" :: "list zz : (a)" :: L) := ext_tl (by
  rw [tl_append, tl_tjoin, tl_tjoin, nl_tl.1, beg_ok.2.1]
  cases L with
  | nil => exact absurd rfl h
  | cons a r =>
    show _ = tl ("read zz : \"x\"" : Str) ++ ([10] ++ (tl ("list zz : (a)" : Str) ++ ([10] ++ joinL [10] ((a :: r).map tl))))
    simp only [List.append_assoc])
theorem text_ok {zs : List Str} {sg : List Sg} {y : Str} (b : Bool) (h : ∀ s ∈ sg, LkOn zs 3 s.1 ∧ LkOk s.1 ∧ AnX s.2) (nm : ∀ y ∈ zs, IsNm y) (hy : y ∈ texts) (l : sg.length ≤ 6) : TG 8 240 8 ((if b = true then begT else "") ++ runT sg y) := by
  have ok : ∀ z ∈ sg.map lineT ++ [endT y], LnOk 8 240 z := fun z hz => by
    rcases List.mem_append.mp hz with hz | hz
    · obtain ⟨s, hs, rfl⟩ := List.mem_map.mp hz
      exact line_ok (h s hs).1 nm (h s hs).2.1 (h s hs).2.2
    · rw [List.mem_singleton.mp hz]
      exact ends_ok y hy
  have len : (sg.map lineT ++ [endT y]).length ≤ 7 := by
    rw [List.length_append, List.length_map, List.length_singleton]
    omega
  cases b with
  | false =>
    have e : (if false = true then begT else ("" : Str)) ++ runT sg y = Txt.join "\n" (sg.map lineT ++ [endT y]) := ext_tl (by rw [tl_append]; rfl)
    rw [e]
    exact TG.of_lines (by omega) ok
  | true =>
    have e : (if true = true then begT else ("" : Str)) ++ runT sg y = Txt.join "\n" ("read zz : \"x\"" :: "list zz : (a)" :: (sg.map lineT ++ [endT y])) := beg_join (by simp)
    rw [e]
    refine TG.of_lines (by simp only [List.length_cons]; omega) fun z hz => ?_
    rcases List.mem_cons.mp hz with rfl | hz
    · exact beg_ok.1 _ (by simp)
    · rcases List.mem_cons.mp hz with rfl | hz
      · exact beg_ok.1 _ (by simp)
      · exact ok z hz
def spB : Nat → Nat
  | 0 => 8
  | i + 1 => 2 * spB i + 1
def spL : Nat → Nat
  | 0 => 240
  | i + 1 => 2 * spL i + 1
theorem sp_le {i : Nat} (h : i ≤ 2) : 8 ≤ spB i ∧ spB i ≤ 35 ∧ 240 ≤ spL i ∧ spL i ≤ 963 ∧ (i ≤ 1 → spB i ≤ 17 ∧ spL i ≤ 481) := by
  match i, h with
  | 0, _ => decide
  | 1, _ => decide
  | 2, _ => decide
theorem txt_ok {t : Str} (g : TG 35 963 10 t) : ∃ ls last, TxtOk t ls last ∧ ls.length ≤ 10 ∧ t = Txt.join "\n" (ls ++ [last]) ∧ t.length ≤ 10604 := by
  obtain ⟨L, e1, e2, e3, e4, e5⟩ := lines_of g
  have el : L = L.dropLast ++ [L.getLast e2] := (List.dropLast_concat_getLast e2).symm
  have tl' := g.len
  refine ⟨L.dropLast, L.getLast e2, ⟨by rw [e1, ← el], fun l hl => ?_, ?_, by omega⟩, ?_, by rw [← el]; exact e3, by omega⟩
  · rw [← el] at hl
    exact (e5 l hl).lb (Nat.le_refl _) (Nat.le_refl _)
  · rw [List.length_dropLast]
    omega
  · rw [List.length_dropLast]
    omega
theorem told_text {t : Str} {ls : List Str} {last y : Str} {sg : List Sg} (tok : TxtOk t ls last) (l10 : ls.length ≤ 10) (e : t = Txt.join "\n" (ls ++ [last])) (g : goM ls [] = .inr sg) (o : outM last = some y) :
    (∀ s ∈ sg, SgG s) ∧ (sg.map (·.1)).Nodup ∧ sg.length ≤ 10 ∧ runT sg y = t ∧ y.length ≤ 963 ∧ 10 ∉ tl y ∧ ∀ c ∈ tl y, c < 128 := by
  obtain ⟨h1, h2, h3⟩ := goM_end g (fun s hs => by cases hs) List.nodup_nil
  have h3 : ls = sg.map lineT := h3
  have el := outM_some o
  have lb := tok.lb last (List.mem_append_right _ (List.mem_singleton.mpr rfl))
  have et : tl last = [101, 110, 100, 32, 58, 32] ++ (34 :: (tl y ++ [34])) := by rw [el]; exact endT_tl y
  refine ⟨h1, h2, ?_, ?_, ?_, fun m => lb.nn ?_, fun c hc => lb.ch c ?_⟩
  · rw [h3, List.length_map] at l10
    exact l10
  · rw [e, h3, el]
    rfl
  · have := lb.ln
    rw [len_tl, et] at this
    simp only [List.length_append, List.length_cons, List.length_nil] at this
    rw [len_tl]
    omega
  · rw [et]
    simp [m]
  · rw [et]
    simp [hc]
def resD : Res → PyData
  | .line k => .tuple [.str "line", .int (k : Int)]
  | .told sg y => .tuple [.str "told", .tuple [.tuple (sg.map siD), .str y]]
  | .ap p => .tuple [.str "apart", .tuple [.int (p.1 : Int), .int (p.2 : Int)]]
theorem res_dq {K : PySem.W.Frag} {H : Hp} {v : V} {r : Res} (h : ResAt H v r) : Dq K H v (resD r) := by
  cases r with
  | line k =>
    obtain ⟨t, rfl, h⟩ := h
    exact .tup h (.cons (.str _) (.cons (.int _) .nil))
  | told sg y =>
    obtain ⟨t, u, q, rfl, h1, h2, vs, h3, h4, h5⟩ := h
    exact .tup h1 (.cons (.str _) (.cons (.tup h2 (.cons (.tup h3 (sis_dqA h4 h5)) (.cons (.str _) .nil))) .nil))
  | ap p =>
    obtain ⟨t, u, rfl, h1, h2⟩ := h
    exact .tup h1 (.cons (.str _) (.cons (.tup h2 (.cons (.int _) (.cons (.int _) .nil))) .nil))
theorem an_fineX {a : An} (g : GoodA a) (w : AnW a) : Fine (anD a) 1 10002 := by
  cases a with
  | no => exact fine_non.up (by decide) (by decide)
  | tx z =>
    refine (fine_str (n := 1000) (fun c hc => ?_) g.2).up (by decide) (by decide)
    have := Array.all_eq_true_iff_forall_mem.mp w c (Array.mem_toList_iff.mp hc)
    have := of_decide_eq_true this
    omega
  | es l =>
    refine Fine.tup (dep := 0) (n := 92) (m := 10002) (fun x hx => ?_) ?_
    · exact ents_fine g.1 x hx
    · rw [List.length_map, List.length_map]
      have := g.2
      omega
theorem lk_fineX {k : Lk} (g : LkG k) : Fine (lkD k) 1 10002 := by
  have st : ∀ x ∈ lkS k, Fine (.str x) 0 3602 := fun x hx => by
    have jsF : ∀ {p : List Str}, Nms p → p.length ≤ 40 → Fine (.str (js p)) 0 3602 := fun {p} h l => (fine_str (n := 360) (fun c hc => by have := js_small h c hc; omega) (by have := js_len h; omega)).up (Nat.le_refl _) (by decide)
    have wdF : ∀ w ∈ (["read", "list", "setting", "tool"] : List Str), Fine (.str w) 0 3602 := fun w hw => by
      have : ∀ w ∈ (["read", "list", "setting", "tool"] : List Str), w.length ≤ 7 ∧ ∀ c ∈ tl w, c < 16 ^ 8 := by decide +kernel
      exact (fine_str (n := 7) (this w hw).2 (this w hw).1).up (Nat.le_refl _) (by decide)
    cases k with
    | rd p =>
      rcases List.mem_cons.mp hx with rfl | hx
      · exact wdF _ (by simp)
      · rw [List.mem_singleton.mp hx]
        exact jsF g.1.2.1 g.2
    | ls p =>
      rcases List.mem_cons.mp hx with rfl | hx
      · exact wdF _ (by simp)
      · rw [List.mem_singleton.mp hx]
        exact jsF g.1.1 g.2
    | se n =>
      have hn : IsNm n := g.1
      rcases List.mem_cons.mp hx with rfl | hx
      · exact wdF _ (by simp)
      · rw [List.mem_singleton.mp hx]
        exact (fine_str (n := 8) (fun c hc => by have := hn.2.2 c hc; omega) hn.2.1).up (Nat.le_refl _) (by decide)
    | tl =>
      rw [List.mem_singleton.mp hx]
      exact wdF _ (by simp)
  have l2 : (lkS k).length ≤ 2 := by cases k <;> simp [lkS]
  show Fine (.tuple ((lkS k).map .str)) 1 10002
  refine Fine.tup (dep := 0) (n := 3602) (m := 10002) (fun x hx => ?_) ?_
  · obtain ⟨y, hy, rfl⟩ := List.mem_map.mp hx
    exact st y hy
  · rw [List.length_map]
    omega
theorem lit_fine {w : Str} (h : w ∈ (["line", "told", "apart"] : List Str)) : Fine (.str w) 0 52 := by
  have : ∀ w ∈ (["line", "told", "apart"] : List Str), w.length ≤ 5 ∧ ∀ c ∈ tl w, c < 16 ^ 8 := by decide +kernel
  exact fine_str (n := 5) (this w h).2 (this w h).1
theorem int_fine : ∀ k < 16, Fine (.int ((k : Nat) : Int)) 0 100 := by
  have : ∀ k < 16, (PyData.int ((k : Nat) : Int)).showable = true ∧ (PyData.int ((k : Nat) : Int)).depth ≤ 0 ∧ (PyData.int ((k : Nat) : Int)).shown.length ≤ 100 := by decide +kernel
  exact fun k hk => ⟨(this k hk).1, (this k hk).2.1, (this k hk).2.2⟩
theorem two_le {a b : PyData} {n m : Nat} (h : 3 + 2 * (n + 2) ≤ m) : 3 + [a, b].length * (n + 2) ≤ m := h
theorem res_fine {t : Str} {ls : List Str} {last : Str} {r : Res} (tok : TxtOk t ls last) (l10 : ls.length ≤ 10) (e : t = Txt.join "\n" (ls ++ [last])) (h : resM ls last r) : Fine (resD r) 20 1000000 := by
  have ap10 : ∀ {sg : List Sg} {p : Nat × Nat}, goM ls [] = .inr sg → FstAp sg (some p) → p.1 < 16 ∧ p.2 < 16 := fun {sg p} g fa => by
    obtain ⟨_, _, h3⟩ := goM_end g (fun s hs => by cases hs) List.nodup_nil
    have h3 : ls = sg.map lineT := h3
    have l2 : sg.length ≤ 10 := by
      rw [h3, List.length_map] at l10
      exact l10
    obtain ⟨lt, ⟨a, b, h1, h2, _⟩, _⟩ := fa
    have i1 := (List.getElem?_eq_some_iff.mp h1).1
    have i2 := (List.getElem?_eq_some_iff.mp h2).1
    omega
  cases r with
  | line k =>
    have hk : k < 16 := by
      rcases h with h | ⟨sg, h, _, rfl⟩
      · have main : ∀ (ls : List Str) (acc : List Sg), goM ls acc = .inl k → k ≤ acc.length + ls.length := by
          intro ls
          induction ls with
          | nil => intro acc h; cases h
          | cons l r ih =>
            intro acc h
            rw [List.length_cons]
            cases et : telM l with
            | none =>
              rw [goM_none et] at h
              cases h
              omega
            | some s =>
              by_cases m : s.1 ∈ acc.map (·.1)
              · rw [goM_rep et m] at h
                cases h
                omega
              · rw [goM_step et m] at h
                have := ih _ h
                rw [List.length_append, List.length_singleton] at this
                omega
        have := main ls [] h
        simp only [List.length_nil] at this
        omega
      · obtain ⟨_, _, h3⟩ := goM_end h (fun s hs => by cases hs) List.nodup_nil
        have h3 : ls = sg.map lineT := h3
        rw [h3, List.length_map] at l10
        omega
    exact (Fine.tup (dep := 0) (n := 100) (m := 1000) (fun x hx => by
      rcases List.mem_cons.mp hx with rfl | hx
      · exact (lit_fine (by simp)).up (Nat.le_refl _) (by decide)
      · rw [List.mem_singleton.mp hx]
        exact int_fine k hk) (two_le (by decide))).up (by decide) (by decide)
  | told sg y =>
    obtain ⟨g, o, _⟩ := h
    obtain ⟨gs, _, l2, _, yl, _, ych⟩ := told_text tok l10 e g o
    have f1 : Fine (.tuple (sg.map siD)) 3 200200 := Fine.tup (dep := 2) (n := 20011) (fun x hx => by
      obtain ⟨s, hs, rfl⟩ := List.mem_map.mp hx
      have g := gs s hs
      exact Fine.tup (dep := 1) (n := 10002) (fun x hx => by
        rcases List.mem_cons.mp hx with rfl | hx
        · exact lk_fineX g.1
        · rw [List.mem_singleton.mp hx]
          exact an_fineX g.2.2.1 g.2.2.2) (two_le (by decide))) (by rw [List.length_map]; omega)
    have f2 : Fine (.tuple [.tuple (sg.map siD), .str y]) 4 400500 := Fine.tup (dep := 3) (n := 200200) (fun x hx => by
      rcases List.mem_cons.mp hx with rfl | hx
      · exact f1
      · rw [List.mem_singleton.mp hx]
        exact (fine_str (n := 963) (fun c hc => by have := ych c hc; omega) yl).up (by decide) (by decide)) (two_le (by decide))
    exact (Fine.tup (dep := 4) (n := 400500) (m := 900000) (fun x hx => by
      rcases List.mem_cons.mp hx with rfl | hx
      · exact (lit_fine (by simp)).up (by decide) (by decide)
      · rw [List.mem_singleton.mp hx]
        exact f2) (two_le (by decide))).up (by decide) (by decide)
  | ap p =>
    obtain ⟨sg, y, g, o, fa⟩ := h
    obtain ⟨p1, p2⟩ := ap10 g fa
    have f2 : Fine (.tuple [.int (p.1 : Int), .int (p.2 : Int)]) 1 1000 := Fine.tup (dep := 0) (n := 100) (fun x hx => by
      rcases List.mem_cons.mp hx with rfl | hx
      · exact int_fine p.1 p1
      · rw [List.mem_singleton.mp hx]
        exact int_fine p.2 p2) (two_le (by decide))
    exact (Fine.tup (dep := 1) (n := 1000) (m := 10000) (fun x hx => by
      rcases List.mem_cons.mp hx with rfl | hx
      · exact (lit_fine (by simp)).up (by decide) (by decide)
      · rw [List.mem_singleton.mp hx]
        exact f2) (two_le (by decide))).up (by decide) (by decide)
theorem text_fine {t : Str} (g : TG 35 963 10 t) : Fine (.str t) 20 1000000 := by
  obtain ⟨_, _, _, _, _, tl'⟩ := txt_ok g
  exact (fine_str (n := 10604) (fun c hc => by have := g.ch c hc; omega) tl').up (by decide) (by decide)
end K3

set_option maxHeartbeats 3900000
namespace STP
open PySem PySem.Spec PyProof.Rows L2
open C8 (pss_cut tCut pe_gc)
def Step (X : Cx) (st : Stmt) (A B : L2.St → Hp → Prop) : Prop := ∃ t, PS X st t ∧ ∀ (D : Ends) σ H, A σ H → (∀ σ' H', B σ' H' → D.nx σ' H') → t D σ H
def Steps (X : Cx) (ss : List Stmt) (A B : L2.St → Hp → Prop) : Prop := ∃ t, PSs X ss t ∧ ∀ (D : Ends) σ H, A σ H → (∀ σ' H', B σ' H' → D.nx σ' H') → t D σ H
theorem steps_cons {X : Cx} {st : Stmt} {ss : List Stmt} {A B C : L2.St → Hp → Prop} (h : Step X st A B) (r : Steps X ss B C) : Steps X (st :: ss) A C := by
  obtain ⟨t, p, q⟩ := h
  obtain ⟨u, p2, q2⟩ := r
  exact ⟨_, pss_cut p p2, fun D σ H a k => ⟨B, q _ σ H a fun _ _ b => b, fun σ' H' b => q2 D σ' H' b k⟩⟩
theorem steps_one {X : Cx} {st : Stmt} {A B : L2.St → Hp → Prop} (h : Step X st A B) : Steps X [st] A B := by
  obtain ⟨t, p, q⟩ := h
  exact ⟨_, pss_one p, fun D σ H a k => q D σ H a k⟩
def tW (X : Cx) (ss : List Stmt) : TS := fun D σ H => ∀ (pins : List (Addr × Obj)) (s : Shared), Inv X pins σ H s → wpAny (model X.prog X.w) X.A (execs ss X.env) (SP X pins D) X.xe s
theorem psW {X : Cx} {ss : List Stmt} : PSs X ss (tW X ss) := ⟨fun pins s σ H D I h => h pins s I⟩
theorem Steps.wish {X : Cx} {ss : List Stmt} {A B : L2.St → Hp → Prop} (h : Steps X ss A B) {D : Ends} {σ : L2.St} {H : Hp} (a : A σ H) (k : ∀ σ' H', B σ' H' → D.nx σ' H') : tW X ss D σ H := by
  obtain ⟨t, p, q⟩ := h
  exact fun pins s I => p.run pins s σ H D I (q D σ H a k)
def forBody : Stmt → List Stmt
  | .For _ _ b _ _ => b
  | _ => []
abbrev nth (ss : List Stmt) (i : Nat) : Stmt := ss.getD i (.Pass ⟨0, 0, 0, 0⟩)
end STP

set_option maxHeartbeats 3900000
namespace K3
open PySem PySem.Spec PyProof.Rows L2 TL
open C8 (pss_cut tCut pe_gc)
open STP CB XW LE LR RP FI
abbrev sLaw : Stmt := top 85
abbrev bd (i : Nat) : Stmt := nth (forBody (nth (defBody sLaw) 1)) i
structure PlO (H : Hp) (st l p : Addr) (zs : List Str) : Prop where
  L : Pool H st l p zs
  nd : zs.Nodup
  z2 : zs.length = 2
  nm : ∀ y ∈ zs, IsNm y
theorem SisL.tup2 {H H' : Hp} {D : Addr} {ss : List Sg} (h : SisL H D ss) (t : TupS H H') (k : ∀ xs, H D = some (.lst xs) → H' D = some (.lst xs)) : SisL H' D ss := by
  obtain ⟨vs, h1, h2, h3⟩ := h
  exact ⟨vs, k _ h1, h2, fun i v s a b => (h3 i v s a b).tup t⟩
theorem SisL.but {H H' : Hp} {st l D : Addr} {c : Nat} {ss : List Sg} (h : SisL H D ss) (n1 : D ≠ st) (n2 : D ≠ l) (S : Strm H st l c) (B : But st l H H') : SisL H' D ss := h.tup2 (tup_but S B) fun _ e => B _ _ e n1 n2
structure TS (st l D : Addr) (zs : List Str) (sg : List Sg) (H : Hp) : Prop where
  h : SisL H D sg
  n1 : D ≠ st
  n2 : D ≠ l
  nm : ∀ y ∈ zs, IsNm y
  ok : ∀ s ∈ sg, LkOn zs 3 s.1 ∧ LkOk s.1 ∧ AnX s.2
  len : sg.length ≤ 6
theorem TS.but {st l D : Addr} {zs : List Str} {sg : List Sg} {c : Nat} {H H' : Hp} (h : TS st l D zs sg H) (S : Strm H st l c) (B : But st l H H') : TS st l D zs sg H' := ⟨h.h.but h.n1 h.n2 S B, h.n1, h.n2, h.nm, h.ok, h.len⟩
def J0 (v0 : V) (st l : Addr) (c : Nat) : L2.St → Hp → Prop := fun σ H => ∃ (x2 x3 x4 x5 x6 x7 x8 x9 x10 : Option V), σ = [some v0, some (.ref st), x2, x3, x4, x5, x6, x7, x8, x9, x10] ∧ Strm H st l c ∧ c ≤ 400000
def J1  (v0 : V) (st l : Addr) (c : Nat) : L2.St → Hp → Prop := fun σ H => ∃ (p : Addr) (zs : List Str) (x2 x4 x5 x6 x7 x8 x9 x10 : Option V), σ = [some v0, some (.ref st), x2, some (.ref p), x4, x5, x6, x7, x8, x9, x10] ∧ (∃ c' ≤ c + 40, Strm H st l c') ∧ c ≤ 400000 ∧ PlO H st l p zs
def J2  (v0 : V) (st l : Addr) (c : Nat) : L2.St → Hp → Prop := fun σ H => ∃ (Z : Addr) (zs : List Str) (sg : List Sg) (x2 x3 x4 x6 x7 x8 x9 x10 : Option V), σ = [some v0, some (.ref st), x2, x3, x4, some (.ref Z), x6, x7, x8, x9, x10] ∧ (∃ c' ≤ c + 260, Strm H st l c') ∧ c ≤ 400000 ∧ TS st l Z zs sg H
def J3  (v0 : V) (st l : Addr) (c : Nat) : L2.St → Hp → Prop := fun σ H => ∃ (Z : Addr) (zs : List Str) (sg : List Sg) (b : Bool) (x2 x3 x4 x7 x8 x9 x10 : Option V), σ = [some v0, some (.ref st), x2, x3, x4, some (.ref Z), some (.str (if b = true then begT else "")), x7, x8, x9, x10] ∧ (∃ c' ≤ c + 261, Strm H st l c') ∧ c ≤ 400000 ∧ TS st l Z zs sg H
def K4 (i : Nat) (v0 : V) (st l : Addr) (c : Nat) : L2.St → Hp → Prop := fun σ H => ∃ (t : Str) (x2 x3 x4 x5 x6 x8 x9 x10 : Option V), σ = [some v0, some (.ref st), x2, x3, x4, x5, x6, some (.str t), x8, x9, x10] ∧ (∃ c' ≤ c + (265 + 30 * i), Strm H st l c') ∧ c ≤ 400000 ∧ TG (spB i) (spL i) (8 + i) t
def J4  (v0 : V) (st l : Addr) (c : Nat) : L2.St → Hp → Prop := fun σ H => ∃ (t : Str) (x2 x3 x4 x5 x6 x8 x9 x10 : Option V), σ = [some v0, some (.ref st), x2, x3, x4, x5, x6, some (.str t), x8, x9, x10] ∧ (∃ c' ≤ c + 263, Strm H st l c') ∧ c ≤ 400000 ∧ TG (spB 0) (spL 0) (8 + 0) t
def J5  (v0 : V) (st l : Addr) (c : Nat) : L2.St → Hp → Prop := fun σ H => ∃ (t : Str) (x2 x3 x4 x5 x6 x8 x9 x10 : Option V), σ = [some v0, some (.ref st), x2, x3, x4, x5, x6, some (.str t), x8, x9, x10] ∧ (∃ c' ≤ c + 340, Strm H st l c') ∧ c ≤ 400000 ∧ TG 35 963 10 t
def J6  (v0 : V) (st l : Addr) (c : Nat) : L2.St → Hp → Prop := fun σ H => ∃ (t : Str) (ls : List Str) (last : Str) (r : Res) (v9 v10 : V) (x2 x3 x4 x5 x6 x8 : Option V), σ = [some v0, some (.ref st), x2, x3, x4, x5, x6, some (.str t), x8, some (v9), some (v10)] ∧ (∃ c' ≤ c + 340, Strm H st l c') ∧ c ≤ 400000 ∧ TG 35 963 10 t ∧ TxtOk t ls last ∧ ls.length ≤ 10 ∧ t = Txt.join "\n" (ls ++ [last]) ∧ resM ls last r ∧ ResAt H v9 r ∧ ResAt H v10 r
def JE  (v0 : V) (st l : Addr) (c : Nat) : L2.St → Hp → Prop := fun σ H => ∃  (x2 x3 x4 x5 x6 x7 x8 x9 x10 : Option V), σ = [some v0, some (.ref st), x2, x3, x4, x5, x6, x7, x8, x9, x10] ∧ (∃ c' ≤ c + 340, Strm H st l c') ∧ c ≤ 400000

theorem scLaw : FnScope ["_law_script", "_law_stream", "_law_turn", "_law_pool_here", "_law_w", "_law_sights", "_law_begin", "_law_text_here", "_law_k", "_law_found", "_law_due"] ["_law_script"] (defScope sLaw) := ⟨rfl, rfl, rfl, by decide +kernel, rfl, by decide +kernel, by decide +kernel⟩
structure LV (P : Program) (w : World) (K : PySem.W.Frag) (mg : Str → Option Value) (base : Heap) (CR CS CA : Addr) (fa : Str → Addr) (fd : Str → FuncData) : Prop where
  T : TB mg
  aD : aD' K mg (fa "D") (fd "D")
  GD : FnOk P w K mg base CX0 1 (fa "D") (fd "D") ["_law_stream", "_law_many"] (spDraw)
  aPo : At K mg "_law_pool" (fa "Po") (fd "Po") ["_law_stream", "_law_many"]
  GPo : FnOk P w K mg base CX0 4 (fa "Po") (fd "Po") ["_law_stream", "_law_many"] (spPool)
  aTrue : At K mg "_law_true_sights" (fa "True") (fd "True") ["_law_stream", "_law_pool_here", "_law_many"]
  GTrue : FnOk P w K mg base CX0 6 (fa "True") (fd "True") ["_law_stream", "_law_pool_here", "_law_many"] (spTrue)
  aTe : At K mg "_law_text" (fa "Te") (fd "Te") ["_law_stream"]
  GTe : FnOk P w K mg base CX0 2 (fa "Te") (fd "Te") ["_law_stream"] (spText)
  aLRnTx : At K mg "_law_run_text" (fa "LRnTx") (fd "LRnTx") ["_law_sights", "_law_outcome"]
  GLRnTx : FnOk P w K mg base CX0 2 (fa "LRnTx") (fd "LRnTx") ["_law_sights", "_law_outcome"] (spLRnTx)
  aLSpo : At K mg "_law_spoiled" (fa "LSpo") (fd "LSpo") ["_law_stream", "_law_text_here"]
  GLSpo : FnOk P w K mg base CX0 3 (fa "LSpo") (fd "LSpo") ["_law_stream", "_law_text_here"] (spLSpo)
  aLEnd : At K mg "_law_end" (fa "LEnd") (fd "LEnd") ["_law_text_here"]
  GLEnd : FnOk P w K mg base CX0 14 (fa "LEnd") (fd "LEnd") ["_law_text_here"] (spLRead)
  aLRead : At K mg "_law_read" (fa "LRead") (fd "LRead") ["_law_text_here"]
  GLRead : FnOk P w K mg base CX0 5 (fa "LRead") (fd "LRead") ["_law_text_here"] (spLRead)
  aWr : At K mg "write_run" (fa "Wr") (fd "Wr") ["run"]
  GWr : FnOk P w K mg base CX0 2 (fa "Wr") (fd "Wr") ["run"] (spWr CR)
  aSa : At K mg "_law_same" (fa "Sa") (fd "Sa") ["_law_found", "_law_due"]
  GSa : FnG P w K mg base CX0 1 (fa "Sa") (fd "Sa") ["_law_found", "_law_due"] (spSame K)
  R : RCl K mg CR
  mkR : Mk K CR (fa "RIni")
  bRIni : L2.Binds K (fd "RIni") ["self", "sights", "outcome"] []
  GRIni0 : FnOk P w K mg base (CX P w) 10 (fa "RIni") (fd "RIni") ["self", "sights", "outcome"] (spRIni CR CS CA)
abbrev XL (P : Program) (w : World) (K : PySem.W.Frag) (mg : Str → Option Value) (base : Heap) (f : Addr) (cdv : Value) (A : Around) (outer : List Env) (s : Shared) (H : Hp) (E : XK) : Cx :=
  (cxOf CX0 P w K mg base ["_law_script", "_law_stream", "_law_turn", "_law_pool_here", "_law_w", "_law_sights", "_law_begin", "_law_text_here", "_law_k", "_law_found", "_law_due"] "law" (defScope sLaw) f cdv A outer s H E).nox
end K3

set_option maxHeartbeats 3900000
namespace K3
open PySem PySem.Spec PyProof.Rows L2 TL
open C8 (pss_cut tCut pe_gc)
open STP CB XW LE LR RP FI
section
variable {P : Program} {w : World} {K : PySem.W.Frag} {mg : Str → Option Value} {base : Heap} {CR CS CA : Addr} {fa : Str → Addr} {fd : Str → FuncData}
  {f : Addr} {cdv : Value} {A : Around} {outer : List Env} {s : Shared} {H : Hp} {E : XK} {v0 : V} {st l : Addr} {c : Nat}
theorem st0  (Lv : LV P w K mg base CR CS CA fa fd) (hg : A.guards = some []) (SM : (base.get? sysModules).isSome = true) (hr : Room 15 (A.deeper (envOfC "law" (defScope sLaw) s.heap.objs.size f cdv))) : Step (XL P w K mg base f cdv A outer s H E) (bd 0) (J0 v0 st l c) (J1 v0 st l c) := by
  obtain ⟨T, aD, GD, aPo, GPo, aTrue, GTrue, aTe, GTe, aLRnTx, GLRnTx, aLSpo, GLSpo, aLEnd, GLEnd, aLRead, GLRead, aWr, GWr, aSa, GSa, R, mkR, bRIni, GRIni0⟩ := id Lv
  have GRIni := noX GRIni0
  have hu := hr.units
  have hu0 := Nat.lt_of_le_of_lt (Nat.le_add_right _ 64) hr.units
  have hu1 := Nat.lt_of_le_of_lt (Nat.add_le_add_left (show 1 ≤ 64 by decide) _) hr.units
  refine ⟨_, ps_set (i := 3) scLaw.nd rfl (Or.inl rfl) (pe_call GPo (hr.mono (by decide)) rfl aPo.m aPo.k aPo.b .nil pass0 (pa_cons (pv 1) (pa_cons pe_int pa_nil))), fun D σ H' hA k => ?_⟩
  obtain ⟨x2, x3, x4, x5, x6, x7, x8, x9, x10, rfl, S, hc⟩ := hA
  refine ⟨_, rfl, st, l, c, 2, rfl, S, by omega, by decide, by decide, fun p zs H2 c2 zl nd nm np L B2 S2 hc2 => ?_⟩
  exact k _ _ ⟨p, zs, _, _, _, _, _, _, _, _, rfl, ⟨c2, by omega, S2⟩, hc, ⟨L, nd, by omega, nm⟩⟩
theorem st1  (Lv : LV P w K mg base CR CS CA fa fd) (hg : A.guards = some []) (SM : (base.get? sysModules).isSome = true) (hr : Room 15 (A.deeper (envOfC "law" (defScope sLaw) s.heap.objs.size f cdv))) : Step (XL P w K mg base f cdv A outer s H E) (bd 1) (J1 v0 st l c) (J2 v0 st l c) := by
  obtain ⟨T, aD, GD, aPo, GPo, aTrue, GTrue, aTe, GTe, aLRnTx, GLRnTx, aLSpo, GLSpo, aLEnd, GLEnd, aLRead, GLRead, aWr, GWr, aSa, GSa, R, mkR, bRIni, GRIni0⟩ := id Lv
  have GRIni := noX GRIni0
  have hu := hr.units
  have hu0 := Nat.lt_of_le_of_lt (Nat.le_add_right _ 64) hr.units
  have hu1 := Nat.lt_of_le_of_lt (Nat.add_le_add_left (show 1 ≤ 64 by decide) _) hr.units
  refine ⟨_, ps_asg (pe_call GTrue (hr.mono (by decide)) rfl aTrue.m aTrue.k aTrue.b .nil pass0 (pa_cons (pv 1) (pa_cons (pv 3) (pa_cons (pe_call GD (hr.mono (by decide)) rfl aD.m aD.k aD.b .nil pass0 (pa_cons (pv 1) (pa_cons pe_int pa_nil))) pa_nil)))) (pg_tup rfl (pgs_cons (pg_name (i := 4) scLaw.nd rfl (Or.inl rfl)) (pgs_cons (pg_name (i := 5) scLaw.nd rfl (Or.inl rfl)) pgs_nil))), fun D σ H' hA k => ?_⟩
  obtain ⟨p, zs, x2, x4, x5, x6, x7, x8, x9, x10, rfl, ⟨c1, hc1, S⟩, hc, pl⟩ := hA
  have z2 := pl.z2
  refine ⟨_, rfl, _, rfl, _, rfl, st, l, c1, 7, rfl, S, by omega, by decide, by decide, fun n H1 n0 n6 B1 S1 => ?_⟩
  refine ⟨st, l, p, c1 + 1, zs, n, rfl, S1, by omega, pl.L.but B1, pl.nd, by omega, by omega, pl.nm, n0, by omega, fun T x Z fs ss z sg H2 c2 hT hD sl nd ok on wa g fl gs ssl tz hD0 B2 S2 hc2 => ?_⟩
  have nD := S1.ne_new hD0
  refine ⟨T, _, rfl, SqT.of hT, rfl, _, _, rfl, _, _, rfl, rfl, k _ _ ⟨Z, zs, sg, _, _, _, _, _, _, _, _, rfl, ⟨c2, by omega, S2⟩, hc, ⟨hD, nD.1, nD.2, pl.nm, fun s hs => ⟨on s hs, (ok s hs).1.1.1.1, tru_x (k := s.1) (a := s.2) (ok s hs).2 (ok s hs).1.1.1 (ok s hs).1.2.2 g gs tz⟩, by omega⟩⟩⟩
theorem st2  (Lv : LV P w K mg base CR CS CA fa fd) (hg : A.guards = some []) (SM : (base.get? sysModules).isSome = true) (hr : Room 15 (A.deeper (envOfC "law" (defScope sLaw) s.heap.objs.size f cdv))) : Step (XL P w K mg base f cdv A outer s H E) (bd 2) (J2 v0 st l c) (J3 v0 st l c) := by
  obtain ⟨T, aD, GD, aPo, GPo, aTrue, GTrue, aTe, GTe, aLRnTx, GLRnTx, aLSpo, GLSpo, aLEnd, GLEnd, aLRead, GLRead, aWr, GWr, aSa, GSa, R, mkR, bRIni, GRIni0⟩ := id Lv
  have GRIni := noX GRIni0
  have hu := hr.units
  have hu0 := Nat.lt_of_le_of_lt (Nat.le_add_right _ 64) hr.units
  have hu1 := Nat.lt_of_le_of_lt (Nat.add_le_add_left (show 1 ≤ 64 by decide) _) hr.units
  refine ⟨_, ps_set (i := 6) scLaw.nd rfl (Or.inl rfl) (pe_op op_mulS pe_str (pe_callTy call_int1 (by rfl) T.int (by decide +kernel) (pa_cons (pe_cmpR op_eq (pe_call GD (hr.mono (by decide)) rfl aD.m aD.k aD.b .nil pass0 (pa_cons (pv 1) (pa_cons pe_int pa_nil))) pe_int (nomark _)) pa_nil))), fun D σ H' hA k => ?_⟩
  obtain ⟨Z, zs, sg, x2, x3, x4, x6, x7, x8, x9, x10, rfl, ⟨c1, hc1, S⟩, hc, ts⟩ := hA
  have bl := beg_ok.2.2
  have sz : 1000000 ≤ sizeLine := by decide
  refine ⟨_, rfl, st, l, c1, 4, rfl, S, by omega, by decide, by decide, fun d H1 d0 d4 B1 S1 => ⟨rfl, .inr ⟨_, rfl, begT, _, rfl, rfl, by omega, ?_⟩⟩⟩
  exact k _ _ ⟨Z, zs, sg, decide (V.int d = V.int 0), _, _, _, _, _, _, _, rfl, ⟨c1 + 1, by omega, S1⟩, hc, ts.but S B1⟩
theorem st3  (Lv : LV P w K mg base CR CS CA fa fd) (hg : A.guards = some []) (SM : (base.get? sysModules).isSome = true) (hr : Room 15 (A.deeper (envOfC "law" (defScope sLaw) s.heap.objs.size f cdv))) : Step (XL P w K mg base f cdv A outer s H E) (bd 3) (J3 v0 st l c) (J4 v0 st l c) := by
  obtain ⟨T, aD, GD, aPo, GPo, aTrue, GTrue, aTe, GTe, aLRnTx, GLRnTx, aLSpo, GLSpo, aLEnd, GLEnd, aLRead, GLRead, aWr, GWr, aSa, GSa, R, mkR, bRIni, GRIni0⟩ := id Lv
  have GRIni := noX GRIni0
  have hu := hr.units
  have hu0 := Nat.lt_of_le_of_lt (Nat.le_add_right _ 64) hr.units
  have hu1 := Nat.lt_of_le_of_lt (Nat.add_le_add_left (show 1 ≤ 64 by decide) _) hr.units
  refine ⟨_, ps_set (i := 7) scLaw.nd rfl (Or.inl rfl) (pe_op op_add_str (pv 6) (pe_call GLRnTx (hr.mono (by decide)) rfl aLRnTx.m aLRnTx.k aLRnTx.b .nil pass0 (pa_cons (pv 5) (pa_cons (pe_call GTe (hr.mono (by decide)) rfl aTe.m aTe.k aTe.b .nil pass0 (pa_cons (pv 1) pa_nil)) pa_nil)))), fun D σ H' hA k => ?_⟩
  obtain ⟨Z, zs, sg, b, x2, x3, x4, x7, x8, x9, x10, rfl, ⟨c1, hc1, S⟩, hc, ts⟩ := hA
  have bl := beg_ok.2.2
  have sz : 1000000 ≤ sizeLine := by decide
  have len := ts.len
  have good : ∀ s ∈ sg, LkOk s.1 ∧ GoodA s.2 := fun s hs => ⟨(ts.ok s hs).2.1, (ts.ok s hs).2.2.good⟩
  refine ⟨_, rfl, _, rfl, _, rfl, st, l, c1, rfl, S, by omega, fun y H1 hy B1 S1 => ?_⟩
  have y20 := (tx_texts y hy).2.1
  have ts1 := ts.but S B1
  have rl := run_len good (show sg.length ≤ 20 by omega) (show y.length ≤ 1000 by omega)
  have bl2 : (if b = true then begT else ("" : Str)).length ≤ 40 := by
    cases b
    · exact Nat.zero_le _
    · exact bl
  refine ⟨Z, y, sg, rfl, ts1.h, good, by omega, by omega, fun H2 s2 => ⟨_, _, rfl, rfl, by omega, ?_⟩⟩
  exact k _ _ ⟨_, _, _, _, _, _, _, _, _, rfl, ⟨c1 + 1, by omega, S1.up s2⟩, hc, text_ok b ts.ok ts.nm hy len⟩
theorem st4  (Lv : LV P w K mg base CR CS CA fa fd) (hg : A.guards = some []) (SM : (base.get? sysModules).isSome = true) (hr : Room 15 (A.deeper (envOfC "law" (defScope sLaw) s.heap.objs.size f cdv))) : Step (XL P w K mg base f cdv A outer s H E) (bd 4) (J4 v0 st l c) (J5 v0 st l c) := by
  obtain ⟨T, aD, GD, aPo, GPo, aTrue, GTrue, aTe, GTe, aLRnTx, GLRnTx, aLSpo, GLSpo, aLEnd, GLEnd, aLRead, GLRead, aWr, GWr, aSa, GSa, R, mkR, bRIni, GRIni0⟩ := id Lv
  have GRIni := noX GRIni0
  have hu := hr.units
  have hu0 := Nat.lt_of_le_of_lt (Nat.le_add_right _ 64) hr.units
  have hu1 := Nat.lt_of_le_of_lt (Nat.add_le_add_left (show 1 ≤ 64 by decide) _) hr.units
  refine ⟨_, ps_for PassesOwn.never rfl (pi_range1 rfl T.range (pa_cons (pe_op op_add pe_int (pe_call GD (hr.mono (by decide)) rfl aD.m aD.k aD.b .nil pass0 (pa_cons (pv 1) (pa_cons pe_int pa_nil)))) pa_nil)) (pg_name (i := 8) scLaw.nd rfl (Or.inl rfl)) (pss_one (ps_set (i := 7) scLaw.nd rfl (Or.inl rfl) (pe_call GLSpo (hr.mono (by decide)) rfl aLSpo.m aLSpo.k aLSpo.b .nil pass0 (pa_cons (pv 1) (pa_cons (pv 7) pa_nil))))), fun D σ H' hA k => ?_⟩
  obtain ⟨t, x2, x3, x4, x5, x6, x8, x9, x10, rfl, ⟨c1, hc1, S⟩, hc, tg⟩ := hA
  refine ⟨_, rfl, st, l, c1, 2, rfl, S, by omega, by decide, by decide, fun d H1 d0 d2 B1 S1 => ?_⟩
  rcases (show d = 0 ∨ d = 1 by omega) with rfl | rfl
  · refine ⟨_, _, rfl, rfl, 1, rfl, by decide, by decide, ?_⟩
    refine for_range (lo := 0) (n := 1) (fun i σ H => K4 i v0 st l c σ H ∧ i ≤ 1) ⟨⟨t, _, _, _, _, _, _, _, _, rfl, ⟨c1 + 1, by omega, S1⟩, hc, tg⟩, Nat.zero_le _⟩ ?_ ?_
    · rintro i σ1 H2 hi ⟨⟨t, y2, y3, y4, y5, y6, y8, y9, y10, rfl, ⟨c2, hc2, S2⟩, _, tg2⟩, _⟩
      obtain ⟨q1, q2, q3, q4, q5⟩ := sp_le (i := i) (by omega)
      obtain ⟨q6, q7⟩ := q5 (by omega)
      refine ⟨_, rfl, _, rfl, st, l, c2, t, spB i, spL i, 8 + i, rfl, S2, by omega, tg2, q1, q6, by omega, q7, by omega, fun t' H3 c3 tg3 B3 S3 hc3 => ?_⟩
      exact ⟨⟨t', _, _, _, _, _, _, _, _, rfl, ⟨c3, by omega, S3⟩, hc, tg3⟩, by omega⟩
    · rintro σ1 H2 ⟨⟨t, y2, y3, y4, y5, y6, y8, y9, y10, rfl, ⟨c2, hc2, S2⟩, _, tg2⟩, _⟩
      exact k _ _ ⟨t, _, _, _, _, _, _, _, _, rfl, ⟨c2, by omega, S2⟩, hc, tg2.le (by decide) (by decide) (by decide)⟩
  · refine ⟨_, _, rfl, rfl, 2, rfl, by decide, by decide, ?_⟩
    refine for_range (lo := 0) (n := 2) (fun i σ H => K4 i v0 st l c σ H ∧ i ≤ 2) ⟨⟨t, _, _, _, _, _, _, _, _, rfl, ⟨c1 + 1, by omega, S1⟩, hc, tg⟩, Nat.zero_le _⟩ ?_ ?_
    · rintro i σ1 H2 hi ⟨⟨t, y2, y3, y4, y5, y6, y8, y9, y10, rfl, ⟨c2, hc2, S2⟩, _, tg2⟩, _⟩
      obtain ⟨q1, q2, q3, q4, q5⟩ := sp_le (i := i) (by omega)
      obtain ⟨q6, q7⟩ := q5 (by omega)
      refine ⟨_, rfl, _, rfl, st, l, c2, t, spB i, spL i, 8 + i, rfl, S2, by omega, tg2, q1, q6, by omega, q7, by omega, fun t' H3 c3 tg3 B3 S3 hc3 => ?_⟩
      exact ⟨⟨t', _, _, _, _, _, _, _, _, rfl, ⟨c3, by omega, S3⟩, hc, tg3⟩, by omega⟩
    · rintro σ1 H2 ⟨⟨t, y2, y3, y4, y5, y6, y8, y9, y10, rfl, ⟨c2, hc2, S2⟩, _, tg2⟩, _⟩
      exact k _ _ ⟨t, _, _, _, _, _, _, _, _, rfl, ⟨c2, by omega, S2⟩, hc, tg2.le (by decide) (by decide) (by decide)⟩
end
end K3

set_option maxHeartbeats 3900000
namespace K3
open PySem PySem.Spec PyProof.Rows L2 TL
open C8 (pss_cut tCut pe_gc)
open STP CB XW LE LR RP FI
theorem not_told : ("line" : Str) ≠ "told" ∧ ("apart" : Str) ≠ "told" := by decide +kernel
section
variable {P : Program} {w : World} {K : PySem.W.Frag} {mg : Str → Option Value} {base : Heap} {CR CS CA : Addr} {fa : Str → Addr} {fd : Str → FuncData}
  {f : Addr} {cdv : Value} {A : Around} {outer : List Env} {s : Shared} {H : Hp} {E : XK} {v0 : V} {st l : Addr} {c : Nat}
theorem st5  (Lv : LV P w K mg base CR CS CA fa fd) (hg : A.guards = some []) (SM : (base.get? sysModules).isSome = true) (hr : Room 15 (A.deeper (envOfC "law" (defScope sLaw) s.heap.objs.size f cdv))) : Step (XL P w K mg base f cdv A outer s H E) (bd 5) (J5 v0 st l c) (J6 v0 st l c) := by
  obtain ⟨T, aD, GD, aPo, GPo, aTrue, GTrue, aTe, GTe, aLRnTx, GLRnTx, aLSpo, GLSpo, aLEnd, GLEnd, aLRead, GLRead, aWr, GWr, aSa, GSa, R, mkR, bRIni, GRIni0⟩ := id Lv
  have GRIni := noX GRIni0
  have hu := hr.units
  have hu0 := Nat.lt_of_le_of_lt (Nat.le_add_right _ 64) hr.units
  have hu1 := Nat.lt_of_le_of_lt (Nat.add_le_add_left (show 1 ≤ 64 by decide) _) hr.units
  refine ⟨_, ps_par (i := 9) (j := 10) (by rfl) scLaw.nd rfl rfl (by decide) rfl rfl (pa_cons (pe_call GLEnd (hr.mono (by decide)) rfl aLEnd.m aLEnd.k aLEnd.b .nil pass0 (pa_cons (pv 7) pa_nil)) (pa_cons (pe_call GLRead (hr.mono (by decide)) rfl aLRead.m aLRead.k aLRead.b .nil pass0 (pa_cons (pv 7) pa_nil)) pa_nil)) (by rfl), fun D σ H' hA k => ?_⟩
  obtain ⟨t, x2, x3, x4, x5, x6, x8, x9, x10, rfl, ⟨c1, hc1, S⟩, hc, tg⟩ := hA
  obtain ⟨ls, last, tok, l10, et, _⟩ := txt_ok tg
  refine ⟨_, rfl, t, ls, last, rfl, tok, fun v r H1 s1 rm ra => ?_⟩
  refine ⟨_, rfl, t, ls, last, rfl, tok, fun v2 r2 H2 s2 rm2 ra2 => ?_⟩
  rw [resM_det rm2 rm] at ra2
  exact ⟨_, _, rfl, k _ _ ⟨t, ls, last, r, v, v2, _, _, _, _, _, _, rfl, ⟨c1, hc1, S.up (s1.trans s2)⟩, hc, tg, tok, l10, et, rm, ra.up s2, ra2⟩⟩
theorem st6  (Lv : LV P w K mg base CR CS CA fa fd) (hg : A.guards = some []) (SM : (base.get? sysModules).isSome = true) (hr : Room 15 (A.deeper (envOfC "law" (defScope sLaw) s.heap.objs.size f cdv))) : Step (XL P w K mg base f cdv A outer s H E) (bd 6) (J6 v0 st l c) (J6 v0 st l c) := by
  obtain ⟨T, aD, GD, aPo, GPo, aTrue, GTrue, aTe, GTe, aLRnTx, GLRnTx, aLSpo, GLSpo, aLEnd, GLEnd, aLRead, GLRead, aWr, GWr, aSa, GSa, R, mkR, bRIni, GRIni0⟩ := id Lv
  have GRIni := noX GRIni0
  have hu := hr.units
  have hu0 := Nat.lt_of_le_of_lt (Nat.le_add_right _ 64) hr.units
  have hu1 := Nat.lt_of_le_of_lt (Nat.add_le_add_left (show 1 ≤ 64 by decide) _) hr.units
  refine ⟨_, ps_if (pt_not (pt_val (pe_callG GSa hg (hr.mono (by decide)) rfl aSa.m aSa.k aSa.b pass0 (pa_cons (pv 9) (pa_cons (pv 10) pa_nil))))) (pss_one (ps_ret pe_bl)) (pss_nil), fun D σ H' hA k => ?_⟩
  obtain ⟨t, ls, last, r, v9, v10, x2, x3, x4, x5, x6, x8, rfl, ⟨c1, hc1, S⟩, hc, tg, tok, l10, et, rm, r9, r10⟩ := hA
  exact ⟨_, rfl, _, rfl, v9, v10, resD r, rfl, res_dq r9, res_dq r10, res_fine tok l10 et rm, _, rfl, iteF (k _ _ ⟨t, ls, last, r, v9, v10, _, _, _, _, _, _, rfl, ⟨c1, hc1, S⟩, hc, tg, tok, l10, et, rm, r9, r10⟩)⟩
theorem st7  (Lv : LV P w K mg base CR CS CA fa fd) (hg : A.guards = some []) (SM : (base.get? sysModules).isSome = true) (hr : Room 15 (A.deeper (envOfC "law" (defScope sLaw) s.heap.objs.size f cdv))) : Step (XL P w K mg base f cdv A outer s H E) (bd 7) (J6 v0 st l c) (JE v0 st l c) := by
  obtain ⟨T, aD, GD, aPo, GPo, aTrue, GTrue, aTe, GTe, aLRnTx, GLRnTx, aLSpo, GLSpo, aLEnd, GLEnd, aLRead, GLRead, aWr, GWr, aSa, GSa, R, mkR, bRIni, GRIni0⟩ := id Lv
  have GRIni := noX GRIni0
  have hu := hr.units
  have hu0 := Nat.lt_of_le_of_lt (Nat.le_add_right _ 64) hr.units
  have hu1 := Nat.lt_of_le_of_lt (Nat.add_le_add_left (show 1 ≤ 64 by decide) _) hr.units
  refine ⟨_, ps_if (PW.pt (pw_and (pt_cmpR op_eq (pe_ix ix_tup (pv 10) pe_int (fun _ _ => rfl)) pe_str (nomark _)) (pw_and1 (pt_not (pt_val (pe_callG GSa hg (hr.mono (by decide)) rfl aSa.m aSa.k aSa.b pass0 (pa_cons (pe_call GWr (hr.mono (by decide)) rfl aWr.m aWr.k aWr.b .nil pass0 (pa_cons (pe_make mkR GRIni (hr.mono (by decide)) rfl R.mg bRIni .nil pass0 (pa_cons (pe_ix ix_tup (pe_ix ix_tup (pv 10) pe_int (fun _ _ => rfl)) pe_int (fun _ _ => rfl)) (pa_cons (pe_ix ix_tup (pe_ix ix_tup (pv 10) pe_int (fun _ _ => rfl)) pe_int (fun _ _ => rfl)) pa_nil))) pa_nil)) (pa_cons (pv 7) pa_nil)))))))) (pss_one (ps_ret pe_bl)) (pss_nil), fun D σ H' hA k => ?_⟩
  obtain ⟨t, ls, last, r, v9, v10, x2, x3, x4, x5, x6, x8, rfl, ⟨c1, hc1, S⟩, hc, tg, tok, l10, et, rm, r9, r10⟩ := hA
  cases r with
  | line n =>
    obtain ⟨q, rfl, hq⟩ := r10
    refine ⟨_, rfl, q, _, 0, _, rfl, rfl, SqT.of hq, atI_nat (j := 0) rfl, rfl, ?_⟩
    rw [eq_str not_told.1]
    exact ⟨_, rfl, iteF (k _ _ ⟨_, _, _, _, _, _, _, _, _, rfl, ⟨c1, hc1, S⟩, hc⟩)⟩
  | ap p =>
    obtain ⟨q, u, rfl, hq, _⟩ := r10
    refine ⟨_, rfl, q, _, 0, _, rfl, rfl, SqT.of hq, atI_nat (j := 0) rfl, rfl, ?_⟩
    rw [eq_str not_told.2]
    exact ⟨_, rfl, iteF (k _ _ ⟨_, _, _, _, _, _, _, _, _, rfl, ⟨c1, hc1, S⟩, hc⟩)⟩
  | told sg y =>
    obtain ⟨q, u, z, rfl, hq, hu', vs, hz, vl, hvs⟩ := r10
    obtain ⟨g, eo, fa⟩ := rm
    obtain ⟨gs, nd, l2, rt, yl, n10, ych⟩ := told_text tok l10 et g eo
    refine ⟨_, rfl, q, _, 0, _, rfl, rfl, SqT.of hq, atI_nat (j := 0) rfl, rfl, ?_⟩
    rw [eq_strT]
    refine ⟨_, rfl, iteT ?_⟩
    refine ⟨_, rfl, q, _, 1, _, rfl, rfl, SqT.of hq, atI_nat (j := 1) rfl, u, _, 0, _, rfl, rfl, SqT.of hu', atI_nat (j := 0) rfl, _, rfl, q, _, 1, _, rfl, rfl, SqT.of hq, atI_nat (j := 1) rfl, u, _, 1, _, rfl, rfl, SqT.of hu', atI_nat (j := 1) rfl, fun o1 dx1 ho1 hdx1 hne1 => ?_⟩
    have sgs : Sgs H' vs (sg.map some) := ⟨by rw [vl, List.length_map], fun i x o h1 h2 => by
      rw [List.getElem?_map] at h2
      obtain ⟨s0, hs, rfl⟩ := Option.map_eq_some_iff.mp h2
      exact ⟨(hvs i x s0 h1 hs).in, (gs s0 (List.mem_of_getElem? hs)).si⟩⟩
    refine mk_runX ⟨z, rfl, .inl hz⟩ sgs nd (by omega) ho1 hdx1 fun oo fo => ⟨fun e H2 s2 rn => ⟨rfl, ?_⟩, fun p e => by
      subst e
      cases fo.det fa⟩
    refine ⟨o1, sg, y, rfl, rn, by omega, fun s hs => ⟨(gs s hs).1.1, (gs s hs).2.2.1⟩, by omega, n10, fun H3 s3 => ?_⟩
    rw [rt]
    exact ⟨_, rfl, .str t, .str t, .str t, rfl, .str _, .str _, text_fine tg, _, rfl, iteF (k _ _ ⟨_, _, _, _, _, _, _, _, _, rfl, ⟨c1, hc1, S.up (s2.trans s3)⟩, hc⟩)⟩
end
end K3

set_option maxHeartbeats 3900000
namespace K3
open PySem PySem.Spec PyProof.Rows L2 TL
open C8 (pss_cut tCut pe_gc)
open CB XW
abbrev sSOR : Stmt := top 40
section
variable {P : Program} {w : World} {K : PySem.W.Frag} {mg : Str → Option Value} {base : Heap} {CS CA fS fA : Addr} {fdS fdA : FuncData}
theorem scSOR : FnScope ["things", "plain", "looks", "index", "thing", "sight"] ["things"] (defScope sSOR) := ⟨rfl, rfl, rfl, by decide +kernel, rfl, by decide +kernel, by decide +kernel⟩
theorem ok_sor {f fG : Addr} {fd fdG : FuncData} (F : Fun K "sights_of_run" "sights_of_run" sSOR f fd) (T : TB mg) (aAsSight : At K mg "as_sight" fG fdG ["thing"]) (GAsSight : FnOk P w K mg base CX0 6 fG fdG ["thing"] spAsSight2)
    (BS : BSig K mg CS fS) (bBS : L2.Binds K fdS ["self", "index"] []) (GBS : FnOk P w K mg base CX0 1 fS fdS ["self", "index"] (spEIni "index" CS)) : FnOk P w K mg base (CX P w) 7 f fd ["things"] (spSOR CS) := by
  refine F.okX scSOR (fun vs H Q E h => ?_) (fun cdv A outer s H vs Q E hr h => ?_)
  · obtain ⟨v, xs, os, rfl, _⟩ := h
    rfl
  · obtain ⟨v, xs, os, rfl, hv, ⟨xl, hx⟩, hl, k⟩ := h
    have hu1 := hu_of hr
    refine ⟨_, pss_cons (ps_set (i := 1) scSOR.nd rfl (Or.inl rfl) (pe_lst pa_nil))
            (pss_cons (ps_set (i := 2) scSOR.nd rfl (Or.inl rfl) pe_dnewT)
            (pss_cons (ps_for (passes_of rfl) rfl (ER.pi_enumV rfl T.enumerate (pv 0)) (pg_tup rfl (pgs_cons (pg_name (i := 3) scSOR.nd rfl (Or.inl rfl)) (pgs_cons (pg_name (i := 4) scSOR.nd rfl (Or.inl rfl)) pgs_nil))) (pss_cons (ps_set (i := 5) scSOR.nd rfl (Or.inl rfl) (pe_call GAsSight (hr.mono (by decide)) rfl aAsSight.m aAsSight.k aAsSight.b .nil pass0 (pa_cons (pv 4) pa_nil)))
            (pss_cons (ps_if (PW.pt (pw_or (pt_cmp (pc_isN (pv 5))) (pw_or1 (pt_cmp (pc_din hu1 (pe_ix ix_tup (pv 5) pe_int (fun _ _ => rfl)) (pv 2)))))) (pss_one (ps_raise rfl (takes_of rfl rfl rfl rfl) (pmk_oex BS.ox BS.iC BS.tI GBS (hr.mono (by decide)) bBS .nil pass0 rfl BS.mg (pa_cons (pv 3) pa_nil)))) (pss_nil))
            (pss_cons (ps_dput hu1 (pv 2) (pe_ix ix_tup (pv 5) pe_int (fun _ _ => rfl)) pe_bl rfl)
            (pss_one (ps_expr (pe_bm PySem.F.plainAttrs_list PySem.F.slot_list_append PySem.F.type_list_append mt_append (pv 1) (pa_cons (pv 5) pa_nil))))))))
            (pss_one (ps_ret (pv 1))))), ?_⟩
    refine ⟨by exact Nat.zero_le _, fun p hp => fun d hd => ?_⟩
    have s1 := same_mk (o := .lst []) hp
    have s2 := same_mk (o := .dT []) hd
    have s12 := s1.trans s2
    have hp2 := s2 _ _ (upd_same (H := H) (a := p) (o := .lst []))
    have hd2 := upd_same (H := upd H p (.lst [])) (a := d) (o := .dT [])
    have pd : p ≠ d := fun e => by rw [← e, upd_same] at hd; cases hd
    have hd0 : H d = none := by rw [upd_ne (Ne.symm pd)] at hd; exact hd
    generalize upd (upd H p (.lst [])) d (.dT []) = H2 at s12 hp2 hd2 ⊢
    refine ER.for_enumV (v := v) (xs := xs) rfl (hv.up s12) (fun i σ H' => ∃ x3 x4 x5 vs ss kvs, σ = [some v, some (.ref p), some (.ref d), x3, x4, x5] ∧ Same H H' ∧ Okp (os.take i) ∧ os.take i = ss.map some ∧ H' p = some (.lst vs) ∧ vs.length = ss.length ∧ (∀ (j : Nat) (x : V) (s : Lk × An), vs[j]? = some x → ss[j]? = some s → SiAt H' x s) ∧ H' d = some (.dT kvs) ∧ kvs.length ≤ i ∧
        (∀ s ∈ ss, SiOk' s) ∧ ∀ q, LkW q → ((valV kvs (lkey q)).isSome = true ↔ ∃ s ∈ ss, s.1 = q))
      ⟨_, _, _, [], [], [], rfl, s12, ⟨fun o ho => by simp at ho, by rw [List.take_zero]; exact .nil⟩, rfl, hp2, rfl, fun j x s h => by simp at h, hd2, Nat.le_refl _, (fun s hs => by cases hs), fun q _ => ⟨(fun z => by cases z), fun ⟨s, hs, _⟩ => by cases hs⟩⟩ ?_ ?_ ?_
    · rintro i τ H' ⟨_, _, _, _, _, _, _, sm, _⟩ a o rfl e
      obtain ⟨a', ea, ha⟩ := hv
      cases ea
      rcases ha with ha | ha <;> (have e2 := s12 _ _ ha; rw [e] at e2; cases e2; exact sm _ _ ha)
    · rintro i x T _ H3 hi ⟨x3, x4, x5, vs, ss, kvs, rfl, s3, okp, tk, hp3, vl, hvs, hd3, kl, good, keys⟩ ex hT
      have hio : i < os.length := by omega
      have eo : os[i]? = some os[i] := List.getElem?_eq_getElem hio
      generalize os[i] = o at eo
      have hxo := hx i x o ex eo
      have sT := same_mk (o := .tup [.int (i : Nat), x]) hT
      refine ⟨T, _, rfl, SqT.of upd_same, rfl, _, _, rfl, _, _, rfl, rfl, ?_⟩
      have s4 := s3.trans sT
      have hp4 := sT _ _ hp3
      have hd4 := sT _ _ hd3
      have hvs4 : ∀ (j : Nat) (y : V) (s : Lk × An), vs[j]? = some y → ss[j]? = some s → SiAt (upd H3 T (.tup [.int (i : Nat), x])) y s := fun j y t h1 h2 => (hvs j y t h1 h2).up sT
      have hx4 : SgO (upd H3 T (.tup [.int (i : Nat), x])) x o := hxo.up s4
      generalize upd H3 T (.tup [.int (i : Nat), x]) = H4 at sT s4 hp4 hd4 hx4 hvs4 ⊢
      have raise : ∀ (H5 : Hp), Same H4 H5 → Bad os i → ∀ b, H5 b = none → ∀ dx, upd H5 b (exo b CS none) dx = none → dx ≠ b → ∃ (d : Addr) (fs : List (Str × V)), upd (upd (upd H5 b (exo b CS none)) dx (exd dx [(("index" : Str), V.int (i : Nat))])) b (exo b CS (some dx)) b = some (exo b CS (some d)) ∧
          upd (upd (upd H5 b (exo b CS none)) dx (exd dx [(("index" : Str), V.int (i : Nat))])) b (exo b CS (some dx)) d = some (exd d fs) ∧ H5 d = none ∧ E (.ref CS) (some d) (upd (del (upd (upd (upd H5 b (exo b CS none)) dx (exd dx [(("index" : Str), V.int (i : Nat))])) b (exo b CS (some dx))) b) d (.xd fs)) := fun H5 s5 bad b hb dx hdx hne => by
        rcases k with ⟨ss2, e2, nd2, _⟩ | ⟨j, bj, want⟩
        · have z := bad.le (i := os.length) (by rw [List.take_length, e2]; exact okp_of nd2)
          omega
        · have h1 := bj.le okp
          have h2 := bad.le bj.1
          obtain rfl : i = j := by omega
          exact eraise_at (s4.trans s5) hb hdx hne want
      cases o with
      | none =>
        refine ⟨_, rfl, .inr ⟨x, rfl, hx4, fun H5 s5 => ⟨_, rfl, _, rfl, iteT ⟨_, rfl, by show 1 ≤ 1000; decide, fun b hb => ⟨b, _, rfl, upd_same, fun dx hdx hne => ⟨rfl, raise H5 s5 ⟨okp, none, eo, .inl rfl⟩ b hb dx hdx hne⟩⟩⟩⟩⟩⟩
      | some sg =>
        refine ⟨_, rfl, .inl ⟨x, sg, rfl, hx4.1, hx4.2.1, fun v' H5 s5 sat => ?_⟩⟩
        have hp5 := s5 _ _ hp4
        have hd5 := s5 _ _ hd4
        obtain ⟨t, u, va, rfl, ht, hu, ha⟩ := id sat
        have ku : H5 u = some (.tup ((lkey sg.1).map kV)) := by rw [lkey_V]; exact hu
        refine ⟨_, rfl, _, rfl, iteN (by intro z; cases z) ⟨_, rfl, t, _, 0, _, rfl, rfl, SqT.of ht, atI_nat (j := 0) rfl, _, rfl, d, _, rfl, DGet.t hd5 ku, ?_⟩⟩
        have kk := keys sg.1 hx4.2.2.1
        by_cases old : ∃ s ∈ ss, s.1 = sg.1
        · rw [kk.mpr old]
          refine ⟨_, rfl, iteT ⟨_, rfl, by show 1 ≤ 1000; decide, fun b hb => ⟨b, _, rfl, upd_same, fun dx hdx hne => ⟨rfl, raise H5 s5 ⟨okp, _, eo, .inr ?_⟩ b hb dx hdx hne⟩⟩⟩⟩
          obtain ⟨so, hs, e⟩ := old
          exact ⟨sg, so, rfl, by rw [tk]; exact List.mem_map.mpr ⟨so, hs, rfl⟩, e⟩
        · have nk : (valV kvs (lkey sg.1)).isSome = false := by
            rw [← Bool.not_eq_true]
            exact fun z => old (kk.mp z)
          rw [nk]
          refine ⟨_, rfl, iteF ⟨_, rfl, _, rfl, t, _, 0, _, rfl, rfl, SqT.of ht, atI_nat (j := 0) rfl, d, _, rfl, DPut.t hd5 ku ?_, ?_⟩⟩
          · exact Nat.lt_of_le_of_lt (show kvs.length ≤ 1000 by omega) (by decide)
          · have s45 := s4.trans s5
            have ts6 : TupS H5 (upd H5 d (.dT (putK kvs (lkey sg.1) (.bl true)))) := tupS_put hd5 fun xs z => by cases z
            have hp6 : upd H5 d (.dT (putK kvs (lkey sg.1) (.bl true))) p = some (.lst vs) := by rw [upd_ne pd]; exact hp5
            have hd6 := upd_same (H := H5) (a := d) (o := .dT (putK kvs (lkey sg.1) (.bl true)))
            have s6 : Same H (upd H5 d (.dT (putK kvs (lkey sg.1) (.bl true)))) := same_ch s45 hd0
            generalize upd H5 d (.dT (putK kvs (lkey sg.1) (.bl true))) = H6 at ts6 hp6 hd6 s6 ⊢
            have ts7 : TupS H5 (upd H6 p (.lst (vs ++ [.ref t]))) := TupS.trans ts6 (tupS_put hp6 fun xs z => by cases z)
            have tl : ss.length ≤ i := by
              have := congrArg List.length tk
              rw [List.length_take, List.length_map] at this
              omega
            refine ⟨_, rfl, .inl ⟨rfl, _, SqL.of hp6⟩, _, rfl, p, _, _, rfl, rfl, hp6, ?_, _, _, _, vs ++ [.ref t], ss ++ [sg], putK kvs (lkey sg.1) (.bl true), rfl, same_ch s6 hp, okp_snoc okp eo fun t' ht' e' => ?_, ?_, upd_same, ?_, fun j y s h1 h2 => ?_, ?_, ?_, fun s hs => ?_, fun q hq => ?_⟩
            · exact Nat.lt_of_lt_of_le (show vs.length < 1001 by omega) (by decide)
            · rw [tk] at ht'
              obtain ⟨s, hs, e2⟩ := List.mem_map.mp ht'
              cases e2
              exact old ⟨_, hs, e'⟩
            · rw [List.take_succ, tk, eo, List.map_append]
              rfl
            · rw [List.length_append, List.length_append, vl]
              rfl
            · rcases Nat.lt_or_ge j vs.length with h3 | h3
              · rw [List.getElem?_append_left h3] at h1
                rw [List.getElem?_append_left (by omega)] at h2
                exact ((hvs4 j y s h1 h2).up s5).tup ts7
              · rw [List.getElem?_append_right h3] at h1
                rw [List.getElem?_append_right (by omega)] at h2
                have j0 : j - vs.length = 0 := by
                  have := (List.getElem?_eq_some_iff.mp h1).1
                  simp only [List.length_cons, List.length_nil] at this
                  omega
                rw [j0] at h1
                rw [show j - ss.length = 0 by omega] at h2
                cases h1
                cases h2
                exact sat.tup ts7
            · rw [upd_ne (Ne.symm pd)]
              exact hd6
            · have := length_putK kvs (lkey sg.1) (.bl true)
              omega
            · rcases List.mem_append.mp hs with hs | hs
              · exact good s hs
              · rw [List.mem_singleton.mp hs]
                exact hx4.2
            · rw [valV_put]
              by_cases e : q = sg.1
              · subst e
                rw [if_pos rfl]
                exact ⟨fun _ => ⟨sg, List.mem_append_right _ (List.mem_singleton.mpr rfl), rfl⟩, fun _ => rfl⟩
              · rw [if_neg fun z => e ((lkey_inj hq hx4.2.2.1).mp z), keys q hq]
                constructor
                · rintro ⟨s, hs, e2⟩
                  exact ⟨s, List.mem_append_left _ hs, e2⟩
                · rintro ⟨s, hs, e2⟩
                  rcases List.mem_append.mp hs with hs | hs
                  · exact ⟨s, hs, e2⟩
                  · rw [List.mem_singleton.mp hs] at e2
                    exact absurd e2.symm e
    · rintro τ H3 ⟨x3, x4, x5, vs, ss, kvs, rfl, s3, okp, tk, hp3, vl, hvs, hd3, kl, good, keys⟩
      rw [xl, List.take_length] at okp tk
      rcases k with ⟨ss2, e2, nd2, fin⟩ | ⟨j, bj, want⟩
      · obtain rfl := some_map_inj (e2.symm.trans tk)
        exact ⟨_, rfl, fin p H3 s3 hp ⟨vs, hp3, vl, hvs⟩⟩
      · have h1 := bj.le (i := os.length) (by rw [List.take_length]; exact okp)
        obtain ⟨_, o, e, _⟩ := bj
        have := (List.getElem?_eq_some_iff.mp e).1
        omega
end
end K3

set_option maxHeartbeats 3900000
namespace K3
open PySem PySem.Spec PyProof.Rows L2 TL
open C8 (pss_cut tCut pe_gc)
open STP CB XW LE LR RP FI
section
variable {P : Program} {w : World} {K : PySem.W.Frag} {mg : Str → Option Value} {base : Heap} {CR CS CA : Addr} {fa : Str → Addr} {fd : Str → FuncData}
  {f : Addr} {cdv : Value} {A : Around} {outer : List Env} {s : Shared} {H : Hp} {E : XK} {v0 : V} {st l : Addr} {c : Nat}
theorem turn (Lv : LV P w K mg base CR CS CA fa fd) (hg : A.guards = some []) (SM : (base.get? sysModules).isSome = true) (hr : Room 15 (A.deeper (envOfC "law" (defScope sLaw) s.heap.objs.size f cdv))) : Steps (XL P w K mg base f cdv A outer s H E) (forBody (nth (defBody sLaw) 1)) (J0 v0 st l c) (JE v0 st l c) :=
  steps_cons (st0 Lv hg SM hr) (steps_cons (st1 Lv hg SM hr) (steps_cons (st2 Lv hg SM hr) (steps_cons (st3 Lv hg SM hr) (steps_cons (st4 Lv hg SM hr) (steps_cons (st5 Lv hg SM hr) (steps_cons (st6 Lv hg SM hr) (steps_one (st7 Lv hg SM hr))))))))
def spLaw (K : PySem.W.Frag) : Sp := fun vs H Q _ => ∃ (a : Addr) (ns : List Int), vs = [.ref a] ∧ ns.length ≤ 63 ∧ SqL K H a (ns.map V.int) ∧ ∀ H', Q (.bl true) H'
theorem ok_law {f : Addr} {fdl : FuncData} (F : Fun K "law" "law" sLaw f fdl) (VV : LV P w K mg base CR CS CA fa fd) (SM : (base.get? sysModules).isSome = true) : FnG P w K mg base CX0 16 f fdl ["_law_script"] (spLaw K) := by
  refine okG F scLaw (fun vs H Q E h => ?_) (fun cdv A outer s H vs Q E hg hr h => ?_)
  · obtain ⟨a, ns, rfl, _⟩ := h
    rfl
  · have V0 := VV
    obtain ⟨T, aD, GD, aPo, GPo, aTrue, GTrue, aTe, GTe, aLRnTx, GLRnTx, aLSpo, GLSpo, aLEnd, GLEnd, aLRead, GLRead, aWr, GWr, aSa, GSa, R, mkR, bRIni, GRIni0⟩ := id VV
    have GRIni := noX GRIni0
    have hu := hr.units
    have hu0 := Nat.lt_of_le_of_lt (Nat.le_add_right _ 64) hr.units
    have hu1 := Nat.lt_of_le_of_lt (Nat.add_le_add_left (show 1 ≤ 64 by decide) _) hr.units
    obtain ⟨a, ns, rfl, hl, hS, fin⟩ := h
    refine ⟨_, pss_cut (ps_set (i := 1) scLaw.nd rfl (Or.inl rfl) (pe_lst (pa_cons (pe_callTy call_list_of (by rfl) T.list (by decide +kernel) (pa_cons (pv 0) pa_nil)) (pa_cons pe_int (pa_cons pe_int (pa_cons pe_int pa_nil))))))
      (pss_cut (ps_for PassesOwn.never rfl (pi_range1 rfl T.range (pa_cons pe_int pa_nil)) (pg_name (i := 2) scLaw.nd rfl (Or.inl rfl)) (psW (ss := forBody (nth (defBody sLaw) 1))))
      (pss_one (ps_ret pe_bl))), ?_⟩
    refine ⟨fun σ H' => ∃ st l, σ = [some (.ref a), some (.ref st), none, none, none, none, none, none, none, none, none] ∧ Strm H' st l 0,
      ⟨_, rfl, a, _, rfl, .inl hS, fun l hl0 => ⟨by show 4 ≤ sizeLine; decide, fun st hst => ⟨st, l, rfl, ?_⟩⟩⟩, ?_⟩
    · have e : upd (upd H l (.lst (ns.map V.int))) st (.lst [.ref l, .int 0, .int 0, .int 0]) l = some (.lst (ns.map V.int)) := same_mk hst _ _ upd_same
      exact ⟨ns, 0, 0, ⟨upd_same, e⟩, hl, by decide, by decide, by decide⟩
    rintro _ H0 ⟨st, l, rfl, S0⟩
    refine ⟨fun _ _ => True, ?_, ?_⟩
    · refine ⟨12, rfl, by decide, by decide, for_range (lo := 0) (n := 12) (fun i σ H' => ∃ x2 x3 x4 x5 x6 x7 x8 x9 x10 c, σ = [some (.ref a), some (.ref st), x2, x3, x4, x5, x6, x7, x8, x9, x10] ∧ Strm H' st l c ∧ c ≤ 340 * i)
        ⟨none, none, none, none, none, none, none, none, none, 0, rfl, S0, Nat.le_refl _⟩ ?_ (fun _ _ _ => trivial)⟩
      rintro i _ H1 hi ⟨x2, x3, x4, x5, x6, x7, x8, x9, x10, c, rfl, S1, hc1⟩
      refine Steps.wish (turn V0 hg SM hr (v0 := .ref a) (st := st) (l := l) (c := c)) ⟨_, _, _, _, _, _, _, _, _, rfl, S1, by omega⟩ ?_
      rintro σ' H' ⟨y2, y3, y4, y5, y6, y7, y8, y9, y10, rfl, ⟨c', hc', S'⟩, _⟩
      exact ⟨y2, y3, y4, y5, y6, y7, y8, y9, y10, c', rfl, S', by omega⟩
    · rintro σ H1 _
      exact fin _
end
end K3

set_option maxHeartbeats 0
namespace K3
open PySem PySem.Spec PyProof.Rows L2 EG RP
theorem fun_of {K : PySem.W.Frag} {x q : Str} {st : Stmt} {f : Addr} {fd : FuncData} (F : FunD K x q (defArgs st) (defBody st) (defScope st) [] [] f fd) : Fun K x q st f fd := by
  obtain ⟨oc, od, dV, kV, doc, pm, an, cdv, ct, osl, rfl, lk, hcd, hD, hK⟩ := F.ex
  rcases hD with ⟨_, rfl⟩ | ⟨e, _⟩
  · exact ⟨⟨oc, od, kV, doc, pm, an, cdv, ct, osl, rfl, lk, hcd⟩, F.kp⟩
  · exact absurd rfl e
section
variable {P : Program} {w : World} {K : PySem.W.Frag} {h : Heap} {mg : Str → Option Value} {f : Addr}
theorem whole (X : K.In h) (G : h.Ns mainGlobals mg) (hfa : mg ("law" : Str) = some (.ref f)) (c : He.SaysX faL fnL [] tfL exB w h K) :
    ∃ fd : FuncData, (∀ (s : Shared) (u : Value), BindsTo s fd ⟨[u], []⟩ [("_law_script", u)]) ∧ ∀ base : Heap, K.In base → base.Ns mainGlobals mg → (base.get? sysModules).isSome = true → FnG P w K mg base CX0 16 f fd ["_law_script"] (spLaw K) := by
  have D := c.t.d
  have ex := c.more
  have gl : ∀ x ∈ gloL, mg x = some (.ref (He.ga K x)) := fun x hx => He.glo_ok X G (D.facts (f := .glo x) (List.mem_append_left _ (List.mem_map.mpr ⟨x, hx, rfl⟩)))
  have fr : ∀ x ∈ freeL, mg x = none := fun x hx => He.free_ok X G (D.facts (f := .free x) (List.mem_append_right _ (List.mem_append_left _ (List.mem_map.mpr ⟨x, hx, rfl⟩))))
  have co : ∀ x ∈ conL, x.ok K = true := fun x hx => D.facts (List.mem_append_right _ (List.mem_append_right _ hx))
  have e := hfa.symm.trans (gl "law" (by decide +kernel))
  cases e
  obtain ⟨d0, U0⟩ := D.def_ 0 (d := dG "is_name" 11) rfl
  have F0 : Fun K "is_name" "is_name" (top 11) (He.ga K "is_name") d0 := fun_of U0
  have b0 : L2.Binds K d0 ["thing"] [] := F0.binds fun _ _ _ _ _ _ us hl => match us, hl with | [_], _ => rfl
  have a0 : At K mg "is_name" (He.ga K "is_name") d0 ["thing"] := ⟨gl _ (by decide +kernel), F0.kp, b0⟩
  obtain ⟨d1, U1⟩ := D.def_ 1 (d := dG "is_path" 12) rfl
  have F1 : Fun K "is_path" "is_path" (top 12) (He.ga K "is_path") d1 := fun_of U1
  have b1 : L2.Binds K d1 ["thing"] [] := F1.binds fun _ _ _ _ _ _ us hl => match us, hl with | [_], _ => rfl
  have a1 : At K mg "is_path" (He.ga K "is_path") d1 ["thing"] := ⟨gl _ (by decide +kernel), F1.kp, b1⟩
  obtain ⟨d2, U2⟩ := D.def_ 2 (d := dG "is_place" 13) rfl
  have F2 : Fun K "is_place" "is_place" (top 13) (He.ga K "is_place") d2 := fun_of U2
  have b2 : L2.Binds K d2 ["thing"] [] := F2.binds fun _ _ _ _ _ _ us hl => match us, hl with | [_], _ => rfl
  have a2 : At K mg "is_place" (He.ga K "is_place") d2 ["thing"] := ⟨gl _ (by decide +kernel), F2.kp, b2⟩
  obtain ⟨d3, U3⟩ := D.def_ 3 (d := dG "beginning" 14) rfl
  have F3 : Fun K "beginning" "beginning" (top 14) (He.ga K "beginning") d3 := fun_of U3
  have b3 : L2.Binds K d3 ["place"] [] := F3.binds fun _ _ _ _ _ _ us hl => match us, hl with | [_], _ => rfl
  have a3 : At K mg "beginning" (He.ga K "beginning") d3 ["place"] := ⟨gl _ (by decide +kernel), F3.kp, b3⟩
  obtain ⟨d4, U4⟩ := D.def_ 4 (d := dG "is_beneath" 15) rfl
  have F4 : Fun K "is_beneath" "is_beneath" (top 15) (He.ga K "is_beneath") d4 := fun_of U4
  have b4 : L2.Binds K d4 ["path", "place"] [] := F4.binds fun _ _ _ _ _ _ us hl => match us, hl with | [_, _], _ => rfl
  have a4 : At K mg "is_beneath" (He.ga K "is_beneath") d4 ["path", "place"] := ⟨gl _ (by decide +kernel), F4.kp, b4⟩
  obtain ⟨d5, U5⟩ := D.def_ 5 (d := dG "is_at_or_beneath" 16) rfl
  have F5 : Fun K "is_at_or_beneath" "is_at_or_beneath" (top 16) (He.ga K "is_at_or_beneath") d5 := fun_of U5
  have b5 : L2.Binds K d5 ["path", "place"] [] := F5.binds fun _ _ _ _ _ _ us hl => match us, hl with | [_, _], _ => rfl
  have a5 : At K mg "is_at_or_beneath" (He.ga K "is_at_or_beneath") d5 ["path", "place"] := ⟨gl _ (by decide +kernel), F5.kp, b5⟩
  obtain ⟨d6, U6⟩ := D.def_ 6 (d := dG "rest_in" 17) rfl
  have F6 : Fun K "rest_in" "rest_in" (top 17) (He.ga K "rest_in") d6 := fun_of U6
  have b6 : L2.Binds K d6 ["path", "place"] [] := F6.binds fun _ _ _ _ _ _ us hl => match us, hl with | [_, _], _ => rfl
  have a6 : At K mg "rest_in" (He.ga K "rest_in") d6 ["path", "place"] := ⟨gl _ (by decide +kernel), F6.kp, b6⟩
  obtain ⟨d7, U7⟩ := D.def_ 7 (d := dG "is_row" 19) rfl
  have F7 : Fun K "is_row" "is_row" (top 19) (He.ga K "is_row") d7 := fun_of U7
  have b7 : L2.Binds K d7 ["thing", "size"] [] := F7.binds fun _ _ _ _ _ _ us hl => match us, hl with | [_, _], _ => rfl
  have a7 : At K mg "is_row" (He.ga K "is_row") d7 ["thing", "size"] := ⟨gl _ (by decide +kernel), F7.kp, b7⟩
  obtain ⟨d8, U8⟩ := D.def_ 8 (d := dG "as_look" 20) rfl
  have F8 : Fun K "as_look" "as_look" (top 20) (He.ga K "as_look") d8 := fun_of U8
  have b8 : L2.Binds K d8 ["thing"] [] := F8.binds fun _ _ _ _ _ _ us hl => match us, hl with | [_], _ => rfl
  have a8 : At K mg "as_look" (He.ga K "as_look") d8 ["thing"] := ⟨gl _ (by decide +kernel), F8.kp, b8⟩
  obtain ⟨d9, U9⟩ := D.def_ 9 (d := dG "can_look" 21) rfl
  have F9 : Fun K "can_look" "can_look" (top 21) (He.ga K "can_look") d9 := fun_of U9
  have b9 : L2.Binds K d9 ["word", "where"] [] := F9.binds fun _ _ _ _ _ _ us hl => match us, hl with | [_, _], _ => rfl
  have a9 : At K mg "can_look" (He.ga K "can_look") d9 ["word", "where"] := ⟨gl _ (by decide +kernel), F9.kp, b9⟩
  obtain ⟨d10, U10⟩ := D.def_ 10 (d := dG "can_show" 22) rfl
  have F10 : Fun K "can_show" "can_show" (top 22) (He.ga K "can_show") d10 := fun_of U10
  have b10 : L2.Binds K d10 ["look", "answer"] [] := F10.binds fun _ _ _ _ _ _ us hl => match us, hl with | [_, _], _ => rfl
  have a10 : At K mg "can_show" (He.ga K "can_show") d10 ["look", "answer"] := ⟨gl _ (by decide +kernel), F10.kp, b10⟩
  obtain ⟨d11, U11⟩ := D.def_ 11 (d := dG "is_listing" 23) rfl
  have F11 : Fun K "is_listing" "is_listing" (top 23) (He.ga K "is_listing") d11 := fun_of U11
  have b11 : L2.Binds K d11 ["thing"] [] := F11.binds fun _ _ _ _ _ _ us hl => match us, hl with | [_], _ => rfl
  have a11 : At K mg "is_listing" (He.ga K "is_listing") d11 ["thing"] := ⟨gl _ (by decide +kernel), F11.kp, b11⟩
  obtain ⟨d12, U12⟩ := D.def_ 12 (d := dG "is_entry" 24) rfl
  have F12 : Fun K "is_entry" "is_entry" (top 24) (He.ga K "is_entry") d12 := fun_of U12
  have b12 : L2.Binds K d12 ["thing"] [] := F12.binds fun _ _ _ _ _ _ us hl => match us, hl with | [_], _ => rfl
  have a12 : At K mg "is_entry" (He.ga K "is_entry") d12 ["thing"] := ⟨gl _ (by decide +kernel), F12.kp, b12⟩
  obtain ⟨d13, U13⟩ := D.def_ 13 (d := dG "as_sight" 25) rfl
  have F13 : Fun K "as_sight" "as_sight" (top 25) (He.ga K "as_sight") d13 := fun_of U13
  have b13 : L2.Binds K d13 ["thing"] [] := F13.binds fun _ _ _ _ _ _ us hl => match us, hl with | [_], _ => rfl
  have a13 : At K mg "as_sight" (He.ga K "as_sight") d13 ["thing"] := ⟨gl _ (by decide +kernel), F13.kp, b13⟩
  obtain ⟨d14, U14⟩ := D.def_ 14 (d := dG "follows_from" 28) rfl
  have F14 : Fun K "follows_from" "follows_from" (top 28) (He.ga K "follows_from") d14 := fun_of U14
  have b14 : L2.Binds K d14 ["one", "other"] [] := F14.binds fun _ _ _ _ _ _ us hl => match us, hl with | [_, _], _ => rfl
  have a14 : At K mg "follows_from" (He.ga K "follows_from") d14 ["one", "other"] := ⟨gl _ (by decide +kernel), F14.kp, b14⟩
  obtain ⟨d15, U15⟩ := D.def_ 15 (d := dG "lost_by_file" 29) rfl
  have F15 : Fun K "lost_by_file" "lost_by_file" (top 29) (He.ga K "lost_by_file") d15 := fun_of U15
  have b15 : L2.Binds K d15 ["file_path", "lost"] [] := F15.binds fun _ _ _ _ _ _ us hl => match us, hl with | [_, _], _ => rfl
  have a15 : At K mg "lost_by_file" (He.ga K "lost_by_file") d15 ["file_path", "lost"] := ⟨gl _ (by decide +kernel), F15.kp, b15⟩
  obtain ⟨d16, U16⟩ := D.def_ 16 (d := dG "lost_by_names" 30) rfl
  have F16 : Fun K "lost_by_names" "lost_by_names" (top 30) (He.ga K "lost_by_names") d16 := fun_of U16
  have b16 : L2.Binds K d16 ["place", "names", "lost"] [] := F16.binds fun _ _ _ _ _ _ us hl => match us, hl with | [_, _, _], _ => rfl
  have a16 : At K mg "lost_by_names" (He.ga K "lost_by_names") d16 ["place", "names", "lost"] := ⟨gl _ (by decide +kernel), F16.kp, b16⟩
  obtain ⟨d17, U17⟩ := D.def_ 17 (d := dG "bar_each_other" 31) rfl
  have F17 : Fun K "bar_each_other" "bar_each_other" (top 31) (He.ga K "bar_each_other") d17 := fun_of U17
  have b17 : L2.Binds K d17 ["one", "other"] [] := F17.binds fun _ _ _ _ _ _ us hl => match us, hl with | [_, _], _ => rfl
  have a17 : At K mg "bar_each_other" (He.ga K "bar_each_other") d17 ["one", "other"] := ⟨gl _ (by decide +kernel), F17.kp, b17⟩
  obtain ⟨d18, U18⟩ := D.def_ 18 (d := dG "denies_some" 32) rfl
  have F18 : Fun K "denies_some" "denies_some" (top 32) (He.ga K "denies_some") d18 := fun_of U18
  have b18 : L2.Binds K d18 ["sight", "others"] [] := F18.binds fun _ _ _ _ _ _ us hl => match us, hl with | [_, _], _ => rfl
  have a18 : At K mg "denies_some" (He.ga K "denies_some") d18 ["sight", "others"] := ⟨gl _ (by decide +kernel), F18.kp, b18⟩
  obtain ⟨d19, U19⟩ := D.def_ 19 (d := dG "contraries" 33) rfl
  have F19 : Fun K "contraries" "contraries" (top 33) (He.ga K "contraries") d19 := fun_of U19
  have b19 : L2.Binds K d19 ["sight"] [] := F19.binds fun _ _ _ _ _ _ us hl => match us, hl with | [_], _ => rfl
  have a19 : At K mg "contraries" (He.ga K "contraries") d19 ["sight"] := ⟨gl _ (by decide +kernel), F19.kp, b19⟩
  obtain ⟨d20, U20⟩ := D.def_ 20 (d := dG "contrary_of_entry" 34) rfl
  have F20 : Fun K "contrary_of_entry" "contrary_of_entry" (top 34) (He.ga K "contrary_of_entry") d20 := fun_of U20
  have b20 : L2.Binds K d20 ["place", "entry"] [] := F20.binds fun _ _ _ _ _ _ us hl => match us, hl with | [_, _], _ => rfl
  have a20 : At K mg "contrary_of_entry" (He.ga K "contrary_of_entry") d20 ["place", "entry"] := ⟨gl _ (by decide +kernel), F20.kp, b20⟩
  obtain ⟨d21, U21⟩ := D.def_ 21 (d := dG "first_apart" 35) rfl
  have F21 : Fun K "first_apart" "first_apart" (top 35) (He.ga K "first_apart") d21 := fun_of U21
  have b21 : L2.Binds K d21 ["sights"] [] := F21.binds fun _ _ _ _ _ _ us hl => match us, hl with | [_], _ => rfl
  have a21 : At K mg "first_apart" (He.ga K "first_apart") d21 ["sights"] := ⟨gl _ (by decide +kernel), F21.kp, b21⟩
  obtain ⟨d22, U22⟩ := D.def_ 22 (d := dG "check_together" 37) rfl
  have F22 : Fun K "check_together" "check_together" (top 37) (He.ga K "check_together") d22 := fun_of U22
  have b22 : L2.Binds K d22 ["plain"] [] := F22.binds fun _ _ _ _ _ _ us hl => match us, hl with | [_], _ => rfl
  have a22 : At K mg "check_together" (He.ga K "check_together") d22 ["plain"] := ⟨gl _ (by decide +kernel), F22.kp, b22⟩
  obtain ⟨d23, U23⟩ := D.def_ 23 (d := dG "sights_of_run" 40) rfl
  have F23 : Fun K "sights_of_run" "sights_of_run" (top 40) (He.ga K "sights_of_run") d23 := fun_of U23
  have b23 : L2.Binds K d23 ["things"] [] := F23.binds fun _ _ _ _ _ _ us hl => match us, hl with | [_], _ => rfl
  have a23 : At K mg "sights_of_run" (He.ga K "sights_of_run") d23 ["things"] := ⟨gl _ (by decide +kernel), F23.kp, b23⟩
  obtain ⟨d24, U24⟩ := D.def_ 24 (d := dG "write_run" 45) rfl
  have F24 : Fun K "write_run" "write_run" (top 45) (He.ga K "write_run") d24 := fun_of U24
  have b24 : L2.Binds K d24 ["run"] [] := F24.binds fun _ _ _ _ _ _ us hl => match us, hl with | [_], _ => rfl
  have a24 : At K mg "write_run" (He.ga K "write_run") d24 ["run"] := ⟨gl _ (by decide +kernel), F24.kp, b24⟩
  obtain ⟨d25, U25⟩ := D.def_ 25 (d := dG "read_run" 46) rfl
  have F25 : Fun K "read_run" "read_run" (top 46) (He.ga K "read_run") d25 := fun_of U25
  have b25 : L2.Binds K d25 ["text"] [] := F25.binds fun _ _ _ _ _ _ us hl => match us, hl with | [_], _ => rfl
  have a25 : At K mg "read_run" (He.ga K "read_run") d25 ["text"] := ⟨gl _ (by decide +kernel), F25.kp, b25⟩
  obtain ⟨d26, U26⟩ := D.def_ 26 (d := dG "look_text" 47) rfl
  have F26 : Fun K "look_text" "look_text" (top 47) (He.ga K "look_text") d26 := fun_of U26
  have b26 : L2.Binds K d26 ["look"] [] := F26.binds fun _ _ _ _ _ _ us hl => match us, hl with | [_], _ => rfl
  have a26 : At K mg "look_text" (He.ga K "look_text") d26 ["look"] := ⟨gl _ (by decide +kernel), F26.kp, b26⟩
  obtain ⟨d27, U27⟩ := D.def_ 27 (d := dG "answer_text" 48) rfl
  have F27 : Fun K "answer_text" "answer_text" (top 48) (He.ga K "answer_text") d27 := fun_of U27
  have b27 : L2.Binds K d27 ["answer"] [] := F27.binds fun _ _ _ _ _ _ us hl => match us, hl with | [_], _ => rfl
  have a27 : At K mg "answer_text" (He.ga K "answer_text") d27 ["answer"] := ⟨gl _ (by decide +kernel), F27.kp, b27⟩
  obtain ⟨d28, U28⟩ := D.def_ 28 (d := dG "sight_in" 49) rfl
  have F28 : Fun K "sight_in" "sight_in" (top 49) (He.ga K "sight_in") d28 := fun_of U28
  have b28 : L2.Binds K d28 ["line"] [] := F28.binds fun _ _ _ _ _ _ us hl => match us, hl with | [_], _ => rfl
  have a28 : At K mg "sight_in" (He.ga K "sight_in") d28 ["line"] := ⟨gl _ (by decide +kernel), F28.kp, b28⟩
  obtain ⟨d29, U29⟩ := D.def_ 29 (d := dG "outcome_in" 50) rfl
  have F29 : Fun K "outcome_in" "outcome_in" (top 50) (He.ga K "outcome_in") d29 := fun_of U29
  have b29 : L2.Binds K d29 ["line"] [] := F29.binds fun _ _ _ _ _ _ us hl => match us, hl with | [_], _ => rfl
  have a29 : At K mg "outcome_in" (He.ga K "outcome_in") d29 ["line"] := ⟨gl _ (by decide +kernel), F29.kp, b29⟩
  obtain ⟨d30, U30⟩ := D.def_ 30 (d := dG "look_in" 51) rfl
  have F30 : Fun K "look_in" "look_in" (top 51) (He.ga K "look_in") d30 := fun_of U30
  have b30 : L2.Binds K d30 ["head"] [] := F30.binds fun _ _ _ _ _ _ us hl => match us, hl with | [_], _ => rfl
  have a30 : At K mg "look_in" (He.ga K "look_in") d30 ["head"] := ⟨gl _ (by decide +kernel), F30.kp, b30⟩
  obtain ⟨d31, U31⟩ := D.def_ 31 (d := dG "answers_in" 52) rfl
  have F31 : Fun K "answers_in" "answers_in" (top 52) (He.ga K "answers_in") d31 := fun_of U31
  have b31 : L2.Binds K d31 ["shown"] [] := F31.binds fun _ _ _ _ _ _ us hl => match us, hl with | [_], _ => rfl
  have a31 : At K mg "answers_in" (He.ga K "answers_in") d31 ["shown"] := ⟨gl _ (by decide +kernel), F31.kp, b31⟩
  obtain ⟨d32, U32⟩ := D.def_ 32 (d := dG "is_between" 53) rfl
  have F32 : Fun K "is_between" "is_between" (top 53) (He.ga K "is_between") d32 := fun_of U32
  have b32 : L2.Binds K d32 ["text", "first", "last"] [] := F32.binds fun _ _ _ _ _ _ us hl => match us, hl with | [_, _, _], _ => rfl
  have a32 : At K mg "is_between" (He.ga K "is_between") d32 ["text", "first", "last"] := ⟨gl _ (by decide +kernel), F32.kp, b32⟩
  obtain ⟨d33, U33⟩ := D.def_ 33 (d := dG "_law_draw" 55) rfl
  have F33 : Fun K "_law_draw" "_law_draw" (top 55) (He.ga K "_law_draw") d33 := fun_of U33
  have b33 : L2.Binds K d33 ["_law_stream", "_law_many"] [] := F33.binds fun _ _ _ _ _ _ us hl => match us, hl with | [_, _], _ => rfl
  have a33 : At K mg "_law_draw" (He.ga K "_law_draw") d33 ["_law_stream", "_law_many"] := ⟨gl _ (by decide +kernel), F33.kp, b33⟩
  obtain ⟨d34, U34⟩ := D.def_ 34 (d := dG "_law_pick" 56) rfl
  have F34 : Fun K "_law_pick" "_law_pick" (top 56) (He.ga K "_law_pick") d34 := fun_of U34
  have b34 : L2.Binds K d34 ["_law_stream", "_law_things"] [] := F34.binds fun _ _ _ _ _ _ us hl => match us, hl with | [_, _], _ => rfl
  have a34 : At K mg "_law_pick" (He.ga K "_law_pick") d34 ["_law_stream", "_law_things"] := ⟨gl _ (by decide +kernel), F34.kp, b34⟩
  obtain ⟨d35, U35⟩ := D.def_ 35 (d := dG "_law_mixed" 57) rfl
  have F35 : Fun K "_law_mixed" "_law_mixed" (top 57) (He.ga K "_law_mixed") d35 := fun_of U35
  have b35 : L2.Binds K d35 ["_law_stream", "_law_things"] [] := F35.binds fun _ _ _ _ _ _ us hl => match us, hl with | [_, _], _ => rfl
  have a35 : At K mg "_law_mixed" (He.ga K "_law_mixed") d35 ["_law_stream", "_law_things"] := ⟨gl _ (by decide +kernel), F35.kp, b35⟩
  obtain ⟨d36, U36⟩ := D.def_ 36 (d := dG "_law_same" 58) rfl
  have F36 : Fun K "_law_same" "_law_same" (top 58) (He.ga K "_law_same") d36 := fun_of U36
  have b36 : L2.Binds K d36 ["_law_found", "_law_due"] [] := F36.binds fun _ _ _ _ _ _ us hl => match us, hl with | [_, _], _ => rfl
  have a36 : At K mg "_law_same" (He.ga K "_law_same") d36 ["_law_found", "_law_due"] := ⟨gl _ (by decide +kernel), F36.kp, b36⟩
  obtain ⟨d37, U37⟩ := D.def_ 37 (d := dG "_law_fresh" 59) rfl
  have F37 : Fun K "_law_fresh" "_law_fresh" (top 59) (He.ga K "_law_fresh") d37 := fun_of U37
  have b37 : L2.Binds K d37 ["_law_stream", "_law_taken"] [] := F37.binds fun _ _ _ _ _ _ us hl => match us, hl with | [_, _], _ => rfl
  have a37 : At K mg "_law_fresh" (He.ga K "_law_fresh") d37 ["_law_stream", "_law_taken"] := ⟨gl _ (by decide +kernel), F37.kp, b37⟩
  obtain ⟨d38, U38⟩ := D.def_ 38 (d := dG "_law_pool" 60) rfl
  have F38 : Fun K "_law_pool" "_law_pool" (top 60) (He.ga K "_law_pool") d38 := fun_of U38
  have b38 : L2.Binds K d38 ["_law_stream", "_law_many"] [] := F38.binds fun _ _ _ _ _ _ us hl => match us, hl with | [_, _], _ => rfl
  have a38 : At K mg "_law_pool" (He.ga K "_law_pool") d38 ["_law_stream", "_law_many"] := ⟨gl _ (by decide +kernel), F38.kp, b38⟩
  obtain ⟨d39, U39⟩ := D.def_ 39 (d := dG "_law_path" 61) rfl
  have F39 : Fun K "_law_path" "_law_path" (top 61) (He.ga K "_law_path") d39 := fun_of U39
  have b39 : L2.Binds K d39 ["_law_stream", "_law_pool_here", "_law_most"] [] := F39.binds fun _ _ _ _ _ _ us hl => match us, hl with | [_, _, _], _ => rfl
  have a39 : At K mg "_law_path" (He.ga K "_law_path") d39 ["_law_stream", "_law_pool_here", "_law_most"] := ⟨gl _ (by decide +kernel), F39.kp, b39⟩
  obtain ⟨d40, U40⟩ := D.def_ 40 (d := dG "_law_beneath" 62) rfl
  have F40 : Fun K "_law_beneath" "_law_beneath" (top 62) (He.ga K "_law_beneath") d40 := fun_of U40
  have b40 : L2.Binds K d40 ["_law_path_here", "_law_other"] [] := F40.binds fun _ _ _ _ _ _ us hl => match us, hl with | [_, _], _ => rfl
  have a40 : At K mg "_law_beneath" (He.ga K "_law_beneath") d40 ["_law_path_here", "_law_other"] := ⟨gl _ (by decide +kernel), F40.kp, b40⟩
  obtain ⟨d41, U41⟩ := D.def_ 41 (d := dG "_law_has_room" 63) rfl
  have F41 : Fun K "_law_has_room" "_law_has_room" (top 63) (He.ga K "_law_has_room") d41 := fun_of U41
  have b41 : L2.Binds K d41 ["_law_files_here", "_law_path_here"] [] := F41.binds fun _ _ _ _ _ _ us hl => match us, hl with | [_, _], _ => rfl
  have a41 : At K mg "_law_has_room" (He.ga K "_law_has_room") d41 ["_law_files_here", "_law_path_here"] := ⟨gl _ (by decide +kernel), F41.kp, b41⟩
  obtain ⟨d42, U42⟩ := D.def_ 42 (d := dG "_law_text" 64) rfl
  have F42 : Fun K "_law_text" "_law_text" (top 64) (He.ga K "_law_text") d42 := fun_of U42
  have b42 : L2.Binds K d42 ["_law_stream"] [] := F42.binds fun _ _ _ _ _ _ us hl => match us, hl with | [_], _ => rfl
  have a42 : At K mg "_law_text" (He.ga K "_law_text") d42 ["_law_stream"] := ⟨gl _ (by decide +kernel), F42.kp, b42⟩
  obtain ⟨d43, U43⟩ := D.def_ 43 (d := dG "_law_files" 65) rfl
  have F43 : Fun K "_law_files" "_law_files" (top 65) (He.ga K "_law_files") d43 := fun_of U43
  have b43 : L2.Binds K d43 ["_law_stream", "_law_pool_here", "_law_most"] [] := F43.binds fun _ _ _ _ _ _ us hl => match us, hl with | [_, _, _], _ => rfl
  have a43 : At K mg "_law_files" (He.ga K "_law_files") d43 ["_law_stream", "_law_pool_here", "_law_most"] := ⟨gl _ (by decide +kernel), F43.kp, b43⟩
  obtain ⟨d44, U44⟩ := D.def_ 44 (d := dG "_law_world" 66) rfl
  have F44 : Fun K "_law_world" "_law_world" (top 66) (He.ga K "_law_world") d44 := fun_of U44
  have b44 : L2.Binds K d44 ["_law_stream", "_law_pool_here", "_law_most"] [] := F44.binds fun _ _ _ _ _ _ us hl => match us, hl with | [_, _, _], _ => rfl
  have a44 : At K mg "_law_world" (He.ga K "_law_world") d44 ["_law_stream", "_law_pool_here", "_law_most"] := ⟨gl _ (by decide +kernel), F44.kp, b44⟩
  obtain ⟨d45, U45⟩ := D.def_ 45 (d := dG "_law_names_in" 67) rfl
  have F45 : Fun K "_law_names_in" "_law_names_in" (top 67) (He.ga K "_law_names_in") d45 := fun_of U45
  have b45 : L2.Binds K d45 ["_law_files_here", "_law_folder"] [] := F45.binds fun _ _ _ _ _ _ us hl => match us, hl with | [_, _], _ => rfl
  have a45 : At K mg "_law_names_in" (He.ga K "_law_names_in") d45 ["_law_files_here", "_law_folder"] := ⟨gl _ (by decide +kernel), F45.kp, b45⟩
  obtain ⟨d46, U46⟩ := D.def_ 46 (d := dG "_law_shows" 68) rfl
  have F46 : Fun K "_law_shows" "_law_shows" (top 68) (He.ga K "_law_shows") d46 := fun_of U46
  have b46 : L2.Binds K d46 ["_law_w", "_law_look_here"] [] := F46.binds fun _ _ _ _ _ _ us hl => match us, hl with | [_, _], _ => rfl
  have a46 : At K mg "_law_shows" (He.ga K "_law_shows") d46 ["_law_w", "_law_look_here"] := ⟨gl _ (by decide +kernel), F46.kp, b46⟩
  obtain ⟨d47, U47⟩ := D.def_ 47 (d := dG "_law_look" 69) rfl
  have F47 : Fun K "_law_look" "_law_look" (top 69) (He.ga K "_law_look") d47 := fun_of U47
  have b47 : L2.Binds K d47 ["_law_stream", "_law_pool_here"] [] := F47.binds fun _ _ _ _ _ _ us hl => match us, hl with | [_, _], _ => rfl
  have a47 : At K mg "_law_look" (He.ga K "_law_look") d47 ["_law_stream", "_law_pool_here"] := ⟨gl _ (by decide +kernel), F47.kp, b47⟩
  obtain ⟨d48, U48⟩ := D.def_ 48 (d := dG "_law_looks" 70) rfl
  have F48 : Fun K "_law_looks" "_law_looks" (top 70) (He.ga K "_law_looks") d48 := fun_of U48
  have b48 : L2.Binds K d48 ["_law_stream", "_law_pool_here", "_law_many"] [] := F48.binds fun _ _ _ _ _ _ us hl => match us, hl with | [_, _, _], _ => rfl
  have a48 : At K mg "_law_looks" (He.ga K "_law_looks") d48 ["_law_stream", "_law_pool_here", "_law_many"] := ⟨gl _ (by decide +kernel), F48.kp, b48⟩
  obtain ⟨d49, U49⟩ := D.def_ 49 (d := dG "_law_saw" 71) rfl
  have F49 : Fun K "_law_saw" "_law_saw" (top 71) (He.ga K "_law_saw") d49 := fun_of U49
  have b49 : L2.Binds K d49 ["_law_w", "_law_looks_here"] [] := F49.binds fun _ _ _ _ _ _ us hl => match us, hl with | [_, _], _ => rfl
  have a49 : At K mg "_law_saw" (He.ga K "_law_saw") d49 ["_law_w", "_law_looks_here"] := ⟨gl _ (by decide +kernel), F49.kp, b49⟩
  obtain ⟨d50, U50⟩ := D.def_ 50 (d := dG "_law_must" 72) rfl
  have F50 : Fun K "_law_must" "_law_must" (top 72) (He.ga K "_law_must") d50 := fun_of U50
  have b50 : L2.Binds K d50 ["_law_sights", "_law_files_here", "_law_folders"] [] := F50.binds fun _ _ _ _ _ _ us hl => match us, hl with | [_, _, _], _ => rfl
  have a50 : At K mg "_law_must" (He.ga K "_law_must") d50 ["_law_sights", "_law_files_here", "_law_folders"] := ⟨gl _ (by decide +kernel), F50.kp, b50⟩
  obtain ⟨d51, U51⟩ := D.def_ 51 (d := dG "_law_entries_fit" 73) rfl
  have F51 : Fun K "_law_entries_fit" "_law_entries_fit" (top 73) (He.ga K "_law_entries_fit") d51 := fun_of U51
  have b51 : L2.Binds K d51 ["_law_entries", "_law_folder", "_law_texts", "_law_dirs"] [] := F51.binds fun _ _ _ _ _ _ us hl => match us, hl with | [_, _, _, _], _ => rfl
  have a51 : At K mg "_law_entries_fit" (He.ga K "_law_entries_fit") d51 ["_law_entries", "_law_folder", "_law_texts", "_law_dirs"] := ⟨gl _ (by decide +kernel), F51.kp, b51⟩
  obtain ⟨d52, U52⟩ := D.def_ 52 (d := dG "_law_fits" 74) rfl
  have F52 : Fun K "_law_fits" "_law_fits" (top 74) (He.ga K "_law_fits") d52 := fun_of U52
  have b52 : L2.Binds K d52 ["_law_sights", "_law_files_here", "_law_folders"] [] := F52.binds fun _ _ _ _ _ _ us hl => match us, hl with | [_, _, _], _ => rfl
  have a52 : At K mg "_law_fits" (He.ga K "_law_fits") d52 ["_law_sights", "_law_files_here", "_law_folders"] := ⟨gl _ (by decide +kernel), F52.kp, b52⟩
  obtain ⟨d53, U53⟩ := D.def_ 53 (d := dG "_law_true_sights" 75) rfl
  have F53 : Fun K "_law_true_sights" "_law_true_sights" (top 75) (He.ga K "_law_true_sights") d53 := fun_of U53
  have b53 : L2.Binds K d53 ["_law_stream", "_law_pool_here", "_law_many"] [] := F53.binds fun _ _ _ _ _ _ us hl => match us, hl with | [_, _, _], _ => rfl
  have a53 : At K mg "_law_true_sights" (He.ga K "_law_true_sights") d53 ["_law_stream", "_law_pool_here", "_law_many"] := ⟨gl _ (by decide +kernel), F53.kp, b53⟩
  obtain ⟨d54, U54⟩ := D.def_ 54 (d := dG "_law_first_apart" 76) rfl
  have F54 : Fun K "_law_first_apart" "_law_first_apart" (top 76) (He.ga K "_law_first_apart") d54 := fun_of U54
  have b54 : L2.Binds K d54 ["_law_sights"] [] := F54.binds fun _ _ _ _ _ _ us hl => match us, hl with | [_], _ => rfl
  have a54 : At K mg "_law_first_apart" (He.ga K "_law_first_apart") d54 ["_law_sights"] := ⟨gl _ (by decide +kernel), F54.kp, b54⟩
  obtain ⟨d55, U55⟩ := D.def_ 55 (d := dG "_law_answer_text" 77) rfl
  have F55 : Fun K "_law_answer_text" "_law_answer_text" (top 77) (He.ga K "_law_answer_text") d55 := fun_of U55
  have b55 : L2.Binds K d55 ["_law_answer"] [] := F55.binds fun _ _ _ _ _ _ us hl => match us, hl with | [_], _ => rfl
  have a55 : At K mg "_law_answer_text" (He.ga K "_law_answer_text") d55 ["_law_answer"] := ⟨gl _ (by decide +kernel), F55.kp, b55⟩
  obtain ⟨d56, U56⟩ := D.def_ 56 (d := dG "_law_run_text" 78) rfl
  have F56 : Fun K "_law_run_text" "_law_run_text" (top 78) (He.ga K "_law_run_text") d56 := fun_of U56
  have b56 : L2.Binds K d56 ["_law_sights", "_law_outcome"] [] := F56.binds fun _ _ _ _ _ _ us hl => match us, hl with | [_, _], _ => rfl
  have a56 : At K mg "_law_run_text" (He.ga K "_law_run_text") d56 ["_law_sights", "_law_outcome"] := ⟨gl _ (by decide +kernel), F56.kp, b56⟩
  obtain ⟨d57, U57⟩ := D.def_ 57 (d := dG "_law_spoiled" 79) rfl
  have F57 : Fun K "_law_spoiled" "_law_spoiled" (top 79) (He.ga K "_law_spoiled") d57 := fun_of U57
  have b57 : L2.Binds K d57 ["_law_stream", "_law_text_here"] [] := F57.binds fun _ _ _ _ _ _ us hl => match us, hl with | [_, _], _ => rfl
  have a57 : At K mg "_law_spoiled" (He.ga K "_law_spoiled") d57 ["_law_stream", "_law_text_here"] := ⟨gl _ (by decide +kernel), F57.kp, b57⟩
  obtain ⟨d58, U58⟩ := D.def_ 58 (d := dG "_law_is_name" 80) rfl
  have F58 : Fun K "_law_is_name" "_law_is_name" (top 80) (He.ga K "_law_is_name") d58 := fun_of U58
  have b58 : L2.Binds K d58 ["_law_thing"] [] := F58.binds fun _ _ _ _ _ _ us hl => match us, hl with | [_], _ => rfl
  have a58 : At K mg "_law_is_name" (He.ga K "_law_is_name") d58 ["_law_thing"] := ⟨gl _ (by decide +kernel), F58.kp, b58⟩
  obtain ⟨d59, U59⟩ := D.def_ 59 (d := dG "_law_look_of" 81) rfl
  have F59 : Fun K "_law_look_of" "_law_look_of" (top 81) (He.ga K "_law_look_of") d59 := fun_of U59
  have b59 : L2.Binds K d59 ["_law_text_here"] [] := F59.binds fun _ _ _ _ _ _ us hl => match us, hl with | [_], _ => rfl
  have a59 : At K mg "_law_look_of" (He.ga K "_law_look_of") d59 ["_law_text_here"] := ⟨gl _ (by decide +kernel), F59.kp, b59⟩
  obtain ⟨d60, U60⟩ := D.def_ 60 (d := dG "_law_answer_of" 82) rfl
  have F60 : Fun K "_law_answer_of" "_law_answer_of" (top 82) (He.ga K "_law_answer_of") d60 := fun_of U60
  have b60 : L2.Binds K d60 ["_law_look_here", "_law_text_here"] [] := F60.binds fun _ _ _ _ _ _ us hl => match us, hl with | [_, _], _ => rfl
  have a60 : At K mg "_law_answer_of" (He.ga K "_law_answer_of") d60 ["_law_look_here", "_law_text_here"] := ⟨gl _ (by decide +kernel), F60.kp, b60⟩
  obtain ⟨d61, U61⟩ := D.def_ 61 (d := dG "_law_read" 83) rfl
  have F61 : Fun K "_law_read" "_law_read" (top 83) (He.ga K "_law_read") d61 := fun_of U61
  have b61 : L2.Binds K d61 ["_law_text_here"] [] := F61.binds fun _ _ _ _ _ _ us hl => match us, hl with | [_], _ => rfl
  have a61 : At K mg "_law_read" (He.ga K "_law_read") d61 ["_law_text_here"] := ⟨gl _ (by decide +kernel), F61.kp, b61⟩
  obtain ⟨d62, U62⟩ := D.def_ 62 (d := dG "_law_end" 84) rfl
  have F62 : Fun K "_law_end" "_law_end" (top 84) (He.ga K "_law_end") d62 := fun_of U62
  have b62 : L2.Binds K d62 ["_law_text_here"] [] := F62.binds fun _ _ _ _ _ _ us hl => match us, hl with | [_], _ => rfl
  have a62 : At K mg "_law_end" (He.ga K "_law_end") d62 ["_law_text_here"] := ⟨gl _ (by decide +kernel), F62.kp, b62⟩
  obtain ⟨d63, U63⟩ := D.def_ 63 (d := dG "law" 85) rfl
  have F63 : Fun K "law" "law" (top 85) (He.ga K "law") d63 := fun_of U63
  obtain ⟨d64, U64⟩ := D.def_ 64 (d := dI "BadSight" "__init__" "BadSight.__init__" 3 0 []) rfl
  have F64 : Fun K "__init__" "BadSight.__init__" (inClass (top 3) 0) (He.ma K (He.ga K "BadSight") "__init__") d64 := fun_of U64
  have b64 : L2.Binds K d64 ["self", "index"] [] := F64.binds fun _ _ _ _ _ _ us hl => match us, hl with | [_, _], _ => rfl
  obtain ⟨d65, U65⟩ := D.def_ 65 (d := dI "Apart" "__init__" "Apart.__init__" 4 0 []) rfl
  have F65 : Fun K "__init__" "Apart.__init__" (inClass (top 4) 0) (He.ma K (He.ga K "Apart") "__init__") d65 := fun_of U65
  have b65 : L2.Binds K d65 ["self", "first", "second"] [] := F65.binds fun _ _ _ _ _ _ us hl => match us, hl with | [_, _, _], _ => rfl
  obtain ⟨d66, U66⟩ := D.def_ 66 (d := dI "BadLine" "__init__" "BadLine.__init__" 5 0 []) rfl
  have F66 : Fun K "__init__" "BadLine.__init__" (inClass (top 5) 0) (He.ma K (He.ga K "BadLine") "__init__") d66 := fun_of U66
  have b66 : L2.Binds K d66 ["self", "index"] [] := F66.binds fun _ _ _ _ _ _ us hl => match us, hl with | [_, _], _ => rfl
  obtain ⟨d67, U67⟩ := D.def_ 67 (d := dI "Run" "__init__" "Run.__init__" 39 0 []) rfl
  have F67 : Fun K "__init__" "Run.__init__" (inClass (top 39) 0) (He.ma K (He.ga K "Run") "__init__") d67 := fun_of U67
  have b67 : L2.Binds K d67 ["self", "sights", "outcome"] [] := F67.binds fun _ _ _ _ _ _ us hl => match us, hl with | [_, _, _], _ => rfl
  have bL : ∀ (s : Shared) (u : Value), BindsTo s d63 ⟨[u], []⟩ [("_law_script", u)] := by
    obtain ⟨oc, od, kV, doc, pm, an, cdv, ct, osl, rfl, lk, hcd⟩ := F63.ex
    exact fun s u => .of_eq rfl
  refine ⟨d63, bL, fun base KB GB SM => ?_⟩
  have T : TB mg := ⟨(fr _ (by decide +kernel)), (fr _ (by decide +kernel)), (fr _ (by decide +kernel)), (fr _ (by decide +kernel)), (fr _ (by decide +kernel)), (fr _ (by decide +kernel)), (fr _ (by decide +kernel)), (fr _ (by decide +kernel)), (fr _ (by decide +kernel)), (fr _ (by decide +kernel)), (fr _ (by decide +kernel)), (fr _ (by decide +kernel))⟩
  have T0 : TPk mg := ⟨T, He.str_ok X G (co _ (List.mem_cons_self ..)), He.str_ok X G (co _ (List.mem_cons_of_mem _ (List.mem_cons_self ..))), He.str_ok X G (co _ (List.mem_cons_of_mem _ (List.mem_cons_of_mem _ (List.mem_cons_self ..)))), He.int_ok X G (co _ (List.mem_cons_of_mem _ (List.mem_cons_of_mem _ (List.mem_cons_of_mem _ (List.mem_cons_self ..)))))⟩
  obtain ⟨xBL, ex⟩ := He.ba ex
  obtain ⟨xAL, ex⟩ := He.ba ex
  obtain ⟨xBS, ex⟩ := He.ba ex
  obtain ⟨xA, ex⟩ := He.ba ex
  obtain ⟨xA2, ex⟩ := He.ba ex
  obtain ⟨xR, ex⟩ := He.ba ex
  obtain ⟨xRf, ex⟩ := He.ba ex
  have xTL := ex
  have cR := HB.clsB_ok xR
  have fR := HB.firB_ok xRf
  have hTL := HB.twoB_ok xTL
  have R0 : RCl K mg (He.ga K "Run") := ⟨(gl _ (by decide +kernel)), He.cls_ok (co _ (List.mem_cons_of_mem _ (List.mem_cons_of_mem _ (List.mem_cons_of_mem _ (List.mem_cons_of_mem _ (List.mem_cons_of_mem _ (List.mem_cons_self ..))))))), He.noat_ok (co _ (List.mem_cons_of_mem _ (List.mem_cons_of_mem _ (List.mem_cons_of_mem _ (List.mem_cons_of_mem _ (List.mem_cons_of_mem _ (List.mem_cons_of_mem _ (List.mem_cons_self ..)))))))), He.noat_ok (co _ (List.mem_cons_of_mem _ (List.mem_cons_of_mem _ (List.mem_cons_of_mem _ (List.mem_cons_of_mem _ (List.mem_cons_of_mem _ (List.mem_cons_of_mem _ (List.mem_cons_of_mem _ (List.mem_cons_self ..)))))))))⟩
  have IR0 : ClIs K (He.ga K "Run") := ⟨cR.ha, cR.hn, cR.ht, cR.hm, cR.kC⟩
  have TX0 : TX mg := ⟨He.str_ok X G (co _ (List.mem_cons_of_mem _ (List.mem_cons_of_mem _ (List.mem_cons_of_mem _ (List.mem_cons_of_mem _ (List.mem_cons_of_mem _ (List.mem_cons_of_mem _ (List.mem_cons_of_mem _ (List.mem_cons_of_mem _ (List.mem_cons_self ..)))))))))), He.str_ok X G (co _ (List.mem_cons_of_mem _ (List.mem_cons_of_mem _ (List.mem_cons_of_mem _ (List.mem_cons_of_mem _ (List.mem_cons_of_mem _ (List.mem_cons_of_mem _ (List.mem_cons_of_mem _ (List.mem_cons_of_mem _ (List.mem_cons_of_mem _ (List.mem_cons_self ..))))))))))), He.str_ok X G (co _ (List.mem_cons_of_mem _ (List.mem_cons_of_mem _ (List.mem_cons_of_mem _ (List.mem_cons_of_mem _ (List.mem_cons_of_mem _ (List.mem_cons_of_mem _ (List.mem_cons_of_mem _ (List.mem_cons_of_mem _ (List.mem_cons_of_mem _ (List.mem_cons_of_mem _ (List.mem_cons_self ..))))))))))))⟩
  have BS : BSig K mg (He.ga K "BadSight") (He.ma K (He.ga K "BadSight") "__init__") := HB.ecl_of xBS (gl _ (by decide +kernel))
  have BL0 : BLine K mg (He.ga K "BadLine") (He.ma K (He.ga K "BadLine") "__init__") := HB.ecl_of xBL (gl _ (by decide +kernel))
  have BA : BApart K mg (He.ga K "Apart") (He.ma K (He.ga K "Apart") "__init__") := HB.ecl2_of xA xA2 (gl _ (by decide +kernel))
  have G1__law_draw := ok_draw (P := P) (w := w) (base := base) (mg := mg) F33 ⟨(fr _ (by decide +kernel))⟩
  have G4__law_pick := ok_pick (P := P) (w := w) (base := base) (mg := mg) F34 ⟨T.int, T.len, T.range, T.list, a33.m, a33.k, a33.b⟩ G1__law_draw
  have G3__law_fresh := ok_fresh (P := P) (w := w) (base := base) (mg := mg) F37 T a33 a34 G1__law_draw G4__law_pick
  have G2__law_pool := ok_pool (P := P) (w := w) (base := base) (mg := mg) F38 T a37 G3__law_fresh
  have G8__law_path := ok_path (P := P) (w := w) (base := base) (mg := mg) F39 T a33 a34 G1__law_draw G4__law_pick
  have G10__law_beneath := ok_beneath (P := P) (w := w) (base := base) (mg := mg) F40 T
  have G9__law_has_room := ok_room (P := P) (w := w) (base := base) (mg := mg) F41 T a40 G10__law_beneath
  have G11__law_text := ok_text (P := P) (w := w) (base := base) (mg := mg) F42 a33 G1__law_draw
  have G7__law_files := ok_files (P := P) (w := w) (base := base) (mg := mg) F43 T a33 G1__law_draw a39 G8__law_path a41 G9__law_has_room a42 G11__law_text
  have G6__law_world := ok_world (P := P) (w := w) (base := base) (mg := mg) F44 T a33 G1__law_draw a43 G7__law_files a42 G11__law_text
  have G13__law_look := ok_look (P := P) (w := w) (base := base) (mg := mg) F47 T a33 a34 a39 G1__law_draw G4__law_pick G8__law_path
  have G12__law_looks := ok_looks (P := P) (w := w) (base := base) (mg := mg) F48 T a47 G13__law_look
  have G14__law_mixed := ok_mixedG (P := P) (w := w) (base := base) (mg := mg) F35 T a33 G1__law_draw
  have G17__law_names_in := ok_nin (P := P) (w := w) (base := base) (mg := mg) F45 T a40 G10__law_beneath
  have G16__law_shows := ok_shows (P := P) (w := w) (base := base) (mg := mg) F46 T a45 G17__law_names_in
  have G15__law_saw := ok_saw (P := P) (w := w) (base := base) (mg := mg) F49 T a46 G16__law_shows
  have G5__law_true_sights := ok_true (P := P) (w := w) (base := base) (mg := mg) F53 T a44 G6__law_world a48 G12__law_looks a35 G14__law_mixed a49 G15__law_saw
  have G19__law_answer_text := ok_lantx (P := P) (w := w) (base := base) (mg := mg) F55 T
  have G18__law_run_text := ok_lrntx (P := P) (w := w) (base := base) (mg := mg) F56 T a55 G19__law_answer_text
  have G20__law_spoiled := ok_lspo (P := P) (w := w) (base := base) (mg := mg) F57 T a33 G1__law_draw a34 G4__law_pick a35 G14__law_mixed
  have G23_BadLine___init__ := ok_blini (P := P) (w := w) (base := base) (mg := mg) F66 BL0
  have G28_is_row := ok_row (P := P) (w := w) (base := base) (mg := mg) F7 T
  have G31_is_name := ok_isName (P := P) (w := w) (base := base) (mg := mg) F0 T0
  have G32_is_path := ok_isPath (P := P) (w := w) (base := base) (mg := mg) F1 T0 a0 G31_is_name
  have G33_is_place := ok_isPlace (P := P) (w := w) (base := base) (mg := mg) F2 T0 a1 G32_is_path
  have G30_can_look := ok_canLook (P := P) (w := w) (base := base) (mg := mg) F9 T0 a0 a1 a2 G31_is_name G32_is_path G33_is_place
  have G29_as_look := ok_asLook (P := P) (w := w) (base := base) (mg := mg) F8 T a7 a9 G28_is_row G30_can_look
  have G36_is_entry := ok_isEntry (P := P) (w := w) (base := base) (mg := mg) F12 T0 a0 G31_is_name
  have G35_is_listing := ok_isListing (P := P) (w := w) (base := base) (mg := mg) F11 T0 a12 G36_is_entry
  have G34_can_show := ok_canShow (P := P) (w := w) (base := base) (mg := mg) F10 T0 a11 G35_is_listing
  have G27_as_sight := ok_asSight (P := P) (w := w) (base := base) (mg := mg) F13 T a7 a8 a10 G28_is_row G29_as_look G34_can_show
  have G39_is_row := ok_rowO (P := P) (w := w) (base := base) (mg := mg) F7 T
  have G38_is_row : FnOk P w K mg base CX0 1 (He.ga K "is_row") d7 ["thing", "size"] spRow2 := FnOk_or G28_is_row G39_is_row
  have G43_is_name := ok_isNameO (P := P) (w := w) (base := base) (mg := mg) F0 T0
  have G44_is_path := ok_isPathO (P := P) (w := w) (base := base) (mg := mg) F1 T0 a0 G31_is_name
  have G45_is_place := ok_isPlaceO (P := P) (w := w) (base := base) (mg := mg) F2 T0 a1 G44_is_path
  have G42_can_look := ok_canLookO (P := P) (w := w) (base := base) (mg := mg) F9 T0 a0 a1 a2 G31_is_name G43_is_name G44_is_path G45_is_place
  have G41_as_look := ok_asLookO (P := P) (w := w) (base := base) (mg := mg) F8 T a7 a9 G28_is_row G39_is_row G42_can_look
  have G40_as_look : FnOk P w K mg base CX0 5 (He.ga K "as_look") d8 ["thing"] spAsLook2 := FnOk_or G29_as_look G41_as_look
  have G49_is_entry := ok_isEntryG (P := P) (w := w) (base := base) (mg := mg) F12 T0 a0 G31_is_name
  have G48_is_listing := ok_isListingO (P := P) (w := w) (base := base) (mg := mg) F11 T0 a12 G49_is_entry
  have G47_is_listing : FnOk P w K mg base CX0 3 (He.ga K "is_listing") d11 ["thing"] spIsListing2 := FnOk_or G35_is_listing G48_is_listing
  have G46_can_show := ok_canShowO (P := P) (w := w) (base := base) (mg := mg) F10 T0 a11 G47_is_listing
  have G37_as_sight := ok_asSightO (P := P) (w := w) (base := base) (mg := mg) F13 T a7 a8 a10 G38_is_row G40_as_look G46_can_show
  have G26_as_sight : FnOk P w K mg base CX0 6 (He.ga K "as_sight") d13 ["thing"] spAsSight2 := FnOk_or G27_as_sight G37_as_sight
  have G50_BadSight___init__ := ok_sini (P := P) (w := w) (base := base) (mg := mg) F64 BS
  have G25_sights_of_run := ok_sor (P := P) (w := w) (base := base) (mg := mg) F23 T a13 G26_as_sight BS b64 G50_BadSight___init__
  have G59_beginning := ok_beg (P := P) (w := w) (base := base) (mg := mg) F3 T0
  have G58_is_beneath := ok_ben (P := P) (w := w) (base := base) (mg := mg) F4 a3 G59_beginning
  have G57_is_at_or_beneath := ok_at (P := P) (w := w) (base := base) (mg := mg) F5 a4 G58_is_beneath
  have G56_lost_by_file := ok_lostF (P := P) (w := w) (base := base) (mg := mg) F15 a5 a4 G57_is_at_or_beneath G58_is_beneath
  have G61_rest_in := ok_rest (P := P) (w := w) (base := base) (mg := mg) F6 T0 a3 G59_beginning
  have G60_lost_by_names := ok_lostN (P := P) (w := w) (base := base) (mg := mg) F16 T0 a5 a4 a6 G57_is_at_or_beneath G58_is_beneath G61_rest_in
  have G55_follows_from := ok_follows (P := P) (w := w) (base := base) (mg := mg) F14 (gl "TREE_LOOKS" (by decide +kernel)) hTL a15 a16 a4 G56_lost_by_file G60_lost_by_names G58_is_beneath
  have G54_denies_some := ok_denies (P := P) (w := w) (base := base) (mg := mg) F18 T a14 G55_follows_from
  have G63_contrary_of_entry := ok_contrE (P := P) (w := w) (base := base) (mg := mg) F20 T0 a3 G59_beginning
  have G62_contraries := ok_contr (P := P) (w := w) (base := base) (mg := mg) F19 (gl "TREE_LOOKS" (by decide +kernel)) hTL a20 G63_contrary_of_entry
  have G53_bar_each_other := ok_barE (P := P) (w := w) (base := base) (mg := mg) F17 a18 a19 G54_denies_some G62_contraries
  have G52_first_apart := ok_first (P := P) (w := w) (base := base) (mg := mg) F21 T a17 G53_bar_each_other
  have G64_Apart___init__ := ok_aini (P := P) (w := w) (base := base) (mg := mg) F65 BA
  have G51_check_together := ok_tog (P := P) (w := w) (base := base) (mg := mg) F22 T a21 G52_first_apart BA b65 G64_Apart___init__
  have G24_Run___init__ := ok_rini (P := P) (w := w) (base := base) (mg := mg) F67 T R0 a23 G25_sights_of_run a22 G51_check_together
  have G67_is_between := ok_btw (P := P) (w := w) (base := base) (mg := mg) F32 T
  have G66_answers_in := ok_ansinX (P := P) (w := w) (base := base) (mg := mg) F31 T TX0 a32 G67_is_between
  have G68_look_in := ok_lkinX (P := P) (w := w) (base := base) (mg := mg) F30 T0 a8 G40_as_look
  have G65_sight_in := ok_sginX (P := P) (w := w) (base := base) (mg := mg) F28 T TX0 a31 G66_answers_in a30 G68_look_in a13 G26_as_sight
  have G69_outcome_in := ok_ouinX (P := P) (w := w) (base := base) (mg := mg) F29 T TX0 a31 G66_answers_in
  have G22_read_run := ok_rdX (P := P) (w := w) (base := base) (mg := mg) F25 T R0 BL0 b66 G23_BadLine___init__ (He.mkr_ok (co _ (List.mem_cons_of_mem _ (List.mem_cons_of_mem _ (List.mem_cons_of_mem _ (List.mem_cons_of_mem _ (List.mem_cons_self ..))))))) b67 G24_Run___init__ a28 G65_sight_in a29 G69_outcome_in
  have G21__law_end := ok_lend (P := P) (w := w) (base := base) (mg := mg) F62 R0 BL0 BA (of_decide_eq_true xAL) a25 G22_read_run
  have G72__law_is_name := ok_lisnm (P := P) (w := w) (base := base) (mg := mg) F58 T
  have G71__law_look_of := ok_llkof (P := P) (w := w) (base := base) (mg := mg) F59 T a58 G72__law_is_name
  have G73__law_answer_of := ok_lanof (P := P) (w := w) (base := base) (mg := mg) F60 T (fr _ (by decide +kernel)) a58 G72__law_is_name
  have G76__law_must := ok_must (P := P) (w := w) (base := base) (mg := mg) F50 T
  have G77__law_entries_fit := ok_entries (P := P) (w := w) (base := base) (mg := mg) F51 T a40 G10__law_beneath
  have G75__law_fits := ok_fits (P := P) (w := w) (base := base) (mg := mg) F52 T a50 a51 G76__law_must G77__law_entries_fit
  have G74__law_first_apart := ok_lfirst (P := P) (w := w) (base := base) (mg := mg) F54 T a52 G75__law_fits
  have G70__law_read := ok_lread (P := P) (w := w) (base := base) (mg := mg) F61 T a59 G71__law_look_of a60 G73__law_answer_of a54 G74__law_first_apart
  have G79_look_text := ok_lktx (P := P) (w := w) (base := base) (mg := mg) F26 T0
  have G80_answer_text := ok_antx (P := P) (w := w) (base := base) (mg := mg) F27 T TX0
  have G78_write_run := ok_wr (P := P) (w := w) (base := base) (mg := mg) F24 TX0 R0 a26 G79_look_text a27 G80_answer_text
  have G81__law_same := ok_same (P := P) (w := w) (base := base) (mg := mg) F36 (fr _ (by decide +kernel)) SM
  let fa : Str → Addr := fun m => if m = "D" then He.ga K "_law_draw" else if m = "LEnd" then He.ga K "_law_end" else if m = "LRead" then He.ga K "_law_read" else if m = "LRnTx" then He.ga K "_law_run_text" else if m = "LSpo" then He.ga K "_law_spoiled" else if m = "Po" then He.ga K "_law_pool" else if m = "RIni" then He.ma K (He.ga K "Run") "__init__" else if m = "Sa" then He.ga K "_law_same" else if m = "Te" then He.ga K "_law_text" else if m = "True" then He.ga K "_law_true_sights" else He.ga K "write_run"
  let fdd : Str → FuncData := fun m => if m = "D" then d33 else if m = "LEnd" then d62 else if m = "LRead" then d61 else if m = "LRnTx" then d56 else if m = "LSpo" then d57 else if m = "Po" then d38 else if m = "RIni" then d67 else if m = "Sa" then d36 else if m = "Te" then d42 else if m = "True" then d53 else d24
  have V0 : LV P w K mg base (He.ga K "Run") (He.ga K "BadSight") (He.ga K "Apart") fa fdd :=
    { T := T, aD := a33, GD := G1__law_draw, aPo := a38, GPo := G2__law_pool, aTrue := a53, GTrue := G5__law_true_sights, aTe := a42, GTe := G11__law_text, aLRnTx := a56, GLRnTx := G18__law_run_text, aLSpo := a57, GLSpo := G20__law_spoiled, aLEnd := a62, GLEnd := G21__law_end, aLRead := a61, GLRead := G70__law_read, aWr := a24, GWr := G78_write_run, aSa := a36, GSa := G81__law_same, R := R0, mkR := (He.mkr_ok (co _ (List.mem_cons_of_mem _ (List.mem_cons_of_mem _ (List.mem_cons_of_mem _ (List.mem_cons_of_mem _ (List.mem_cons_self ..))))))), bRIni := b67, GRIni0 := G24_Run___init__ }
  exact ok_law F63 V0 SM
end
end K3

set_option maxHeartbeats 0
open PySem PySem.W PySem.Calls PyProof.Rows
theorem PySem.Challenge.cw_trueagain_k31_run_texts_refused_holds : PySem.Challenge.rw_trueagain_k31_run_texts_refused.Holds := by
  w_on; o_law
  refine HandSHeadRun.head_any (r := K3.RL) (q := view K3.RL.prog [85]) (H := K3.hkL) (ob := K3.obL) (M := 20000) (loose := K3.looseL) (d := HandSHeadRun.topDef K3.RL.prog 85) (kwd := []) K3.obL_eq
    (by kernel_rfl) (fun s => by kernel_rfl) K3.runL (by kernel_rfl) (by kernel_rfl) (by kernel_rfl) (by rfl) (by first | assumption | decide +kernel) (by decide +kernel) ⟨rfl, rfl, rfl, rfl, rfl, by decide +kernel⟩ ?hw ?hc
  case hw => w_witness2
  case hc =>
    refine EG.walkG (l := PySem.Challenge.rw_trueagain_k31_run_texts_refused) (n := 63) (k := 16) (x := "_law_script") rfl (by decide) (by kernel_rfl) ⟨rfl, by decide, by decide⟩ ?F
    intro w mg fa h Y GG hmg0
    obtain ⟨⟨K, KX, c⟩, sys⟩ := Y
    have hmg : mg ("law" : PySem.Str) = some (.ref fa) := by
      have e : (HandSHeadRun.topDef K3.RL.prog 85).name = ("law" : PySem.Str) := by kernel_rfl
      rw [← e]
      exact hmg0
    obtain ⟨fd, hb, hF⟩ := K3.whole (P := PySem.Challenge.rw_trueagain_k31_run_texts_refused.prog) (w := w) KX GG hmg c
    have no : ∀ p : PySem.Addr × PySem.Addr, p ∉ ([] : List (PySem.Addr × PySem.Addr)) := fun p hp => by cases hp
    exact ⟨K, [], fd, K3.spLaw K, KX, fun p hp => absurd hp (no p), fun p hp => absurd hp (no p), fun p hp => absurd hp (no p), sys, hb, fun H a ns hl _ _ hS => ⟨a, ns, rfl, hl, hS, fun _ => rfl⟩, fun base b1 b2 _ b4 => hF base b1 b2 b4⟩
