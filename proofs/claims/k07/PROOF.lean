import PyProof.Rows.All
import Wide.All
import OpenK.AllK
import Wide.FinOn
import HandS.ForMost
import HandS.Wide
import HandS.Codes
import HandS.Conv
import HandS.Deep
import PySem.Challenge.RW_trueagain_k07_sights_barred
import HandS.StrMore
import HandS.Walk
import HandS.IsInst
import HandS.SetKeys
import HandS.DictTup
import PyProof.DictMoreH
import HandS.Head0
import HandS.Head1
import HandS.Head2
import HandS.HeadEnd
import HandS.HeadHook1
import HandS.HeadHook2
import HandS.HeadHook3
import HandS.HeadHook4
import HandS.Defaults
set_option Elab.async false
set_option linter.all false
set_option maxRecDepth 100000
set_option maxHeartbeats 3900000
namespace G
open PySem PySem.Spec PyProof.Rows L2
open C8 (pss_cut tCut pe_gc)
def top (i : Nat) : Stmt := PySem.Challenge.pw_trueagain_k07_sights_barred.main.body.getD i (.Pass ⟨0, 0, 0, 0⟩)
abbrev sDraw : Stmt := top 36
abbrev sPick : Stmt := top 37
abbrev sMixed : Stmt := top 38
abbrev sFresh : Stmt := top 39
abbrev sPool : Stmt := top 40
abbrev sPath : Stmt := top 41
abbrev sText : Stmt := top 43
/-! the stream: its list of what is left, the number that is being used up, the count of draws, the mixed number -/
def SV (H : Hp) (st l : Addr) (ns : List Int) (a c m : Int) : Prop := H st = some (.lst [.ref l, .int a, .int c, .int m]) ∧ H l = some (.lst (ns.map V.int))
theorem SV.ne {H : Hp} {st l : Addr} {ns : List Int} {a c m : Int} (S : SV H st l ns a c m) : st ≠ l := by
  refine ne_of S.1 S.2 fun z => ?_
  have z2 : [V.ref l, V.int a, V.int c, V.int m] = ns.map V.int := HO.lst.inj z
  cases ns with
  | nil => cases z2
  | cons n r =>
    rw [List.map_cons] at z2
    have := (List.cons.inj z2).1
    cases this
def Good (H : Hp) (st l : Addr) (c : Int) : Prop := ∃ (ns : List Int) (a m : Int), SV H st l ns a c m ∧ ns.length ≤ 63 ∧ 0 ≤ a ∧ 0 ≤ m ∧ m < 2147483647
structure Strm (H : Hp) (st l : Addr) (c : Nat) : Prop where
  ex : Good H st l (c : Int)
theorem Strm.ne {H : Hp} {st l : Addr} {c : Nat} (S : Strm H st l c) : st ≠ l := by
  obtain ⟨ns, a, m, h, _⟩ := S.ex
  exact h.ne
/-- all but the stream is as it was -/
def But (st l : Addr) (H H' : Hp) : Prop := ∀ b o, H b = some o → b ≠ st → b ≠ l → H' b = some o
theorem But.refl {st l : Addr} {H : Hp} : But st l H H := fun _ _ e _ _ => e
theorem But.st {st l : Addr} {H H' : Hp} {o : HO} (B : But st l H H') : But st l H (upd H' st o) := fun b u e h1 h2 => by
  rw [upd_ne h1]
  exact B b u e h1 h2
theorem But.li {st l : Addr} {H H' : Hp} {o : HO} (B : But st l H H') : But st l H (upd H' l o) := fun b u e h1 h2 => by
  rw [upd_ne h2]
  exact B b u e h1 h2
theorem But.new {st l p : Addr} {H H' : Hp} {o : HO} (B : But st l H H') (h : H' p = none) : But st l H (upd H' p o) := fun b u e h1 h2 => by
  have q := B b u e h1 h2
  rw [upd_ne (ne_of_none q h)]
  exact q
theorem SV.st {H : Hp} {st l : Addr} {ns : List Int} {a c m a' c' m' : Int} {xs : List V} (S : SV H st l ns a c m) (e : xs = [.ref l, .int a', .int c', .int m']) : SV (upd H st (.lst xs)) st l ns a' c' m' := by
  subst e
  refine ⟨upd_same, ?_⟩
  rw [upd_ne S.ne.symm]
  exact S.2
theorem SV.new {H : Hp} {st l p : Addr} {ns : List Int} {a c m : Int} {o : HO} (S : SV H st l ns a c m) (h : H p = none) : SV (upd H p o) st l ns a c m := by
  refine ⟨?_, ?_⟩
  · rw [upd_ne (ne_of_none S.1 h)]
    exact S.1
  · rw [upd_ne (ne_of_none S.2 h)]
    exact S.2
theorem SV.li {H : Hp} {st l : Addr} {ns ns' : List Int} {a c m : Int} {xs : List V} (S : SV H st l ns a c m) (e : xs = ns'.map V.int) : SV (upd H l (.lst xs)) st l ns' a c m := by
  subst e
  refine ⟨?_, upd_same⟩
  rw [upd_ne S.ne]
  exact S.1
def spDraw : Sp := fun vs H Q _ => ∃ (st l : Addr) (c : Nat) (many : Int), vs = [.ref st, .int many] ∧ Strm H st l c ∧ c ≤ 1000000 ∧ 0 < many ∧ many < 1000000 ∧
  ∀ (d : Int) (H' : Hp), 0 ≤ d → d < many → But st l H H' → Strm H' st l (c + 1) → Q (.int d) H'
structure TDraw (mg : Str → Option Value) : Prop where
  int : mg "int" = none
section
variable {P : Program} {w : World} {K : PySem.W.Frag} {mg : Str → Option Value} {base : Heap}
theorem dp_ints {H : Hp} : ∀ ns : List Int, DpAll K H (ns.map V.int) (ns.map PyData.int)
  | [] => .nil
  | n :: r => .cons (.int n) (dp_ints r)
theorem scD : FnScope ["_law_stream", "_law_many", "_law_digit", "_law_mixed_here"] ["_law_stream", "_law_many"] (defScope sDraw) := ⟨rfl, rfl, rfl, by decide +kernel, rfl, by decide +kernel, by decide +kernel⟩
theorem ok_draw {f : Addr} {fd : FuncData} (F : Fun K "_law_draw" "_law_draw" sDraw f fd) (T : TDraw mg) : FnOk P w K mg base CX0 1 f fd ["_law_stream", "_law_many"] spDraw := by
  refine F.ok scD (fun vs H Q E h => ?_) (fun cdv A outer s H vs Q E hr h => ?_)
  · obtain ⟨st, l, c, many, rfl, _⟩ := h
    rfl
  · obtain ⟨st, l, c, many, rfl, S, hc, hm0, hm1, k⟩ := h
    have hu := hr.units
    refine ⟨_, pss_cut (ps_asg (pe_op op_add (pe_ix ix_list (pv 0) pe_int (fun _ _ => rfl)) pe_int) (pg_sub (pv 0) pe_int set_list))
      (pss_cut (ps_if (PW.pt (pw_and (pt_cmpR op_eq (pe_ix ix_list (pv 0) pe_int (fun _ _ => rfl)) pe_int (nomark _)) (pw_and1 (pt_cmpR (op_neD hu) (pe_ix ix_list (pv 0) pe_int (fun _ _ => rfl)) (pe_lst pa_nil) (nomark _)))))
        (pss_cut (ps_asg (pe_bm PySem.F.plainAttrs_list PySem.F.slot_list_pop PySem.F.type_list_pop mt_popAt (pe_ix ix_list (pv 0) pe_int (fun _ _ => rfl)) (pa_cons pe_int pa_nil)) (pg_sub (pv 0) pe_int set_list))
          (pss_one (ps_if (pt_cmpR op_lt (pe_ix ix_list (pv 0) pe_int (fun _ _ => rfl)) (pe_op op_pow pe_int pe_int) (nomark _))
            (pss_cut (ps_asg (pe_op op_mod (pe_callTy call_int1 (by rfl) T.int (by decide +kernel) (pa_cons (pe_op op_add (pe_op op_add (pe_op op_mul (pe_ix ix_list (pv 0) pe_int (fun _ _ => rfl)) pe_int) (pe_ix ix_list (pv 0) pe_int (fun _ _ => rfl))) pe_int) pa_nil)) pe_int) (pg_sub (pv 0) pe_int set_list))
              (pss_one (ps_asg pe_int (pg_sub (pv 0) pe_int set_list)))) pss_nil)))
        pss_nil)
      (pss_cut (ps_if (pt_cmpR op_gt (pe_ix ix_list (pv 0) pe_int (fun _ _ => rfl)) pe_int (nomark _))
        (pss_cons (ps_set (i := 2) scD.nd rfl (Or.inl rfl) (pe_op op_mod (pe_callTy call_int1 (by rfl) T.int (by decide +kernel) (pa_cons (pe_ix ix_list (pv 0) pe_int (fun _ _ => rfl)) pa_nil)) (pv 1)))
          (pss_cons (ps_asg (pe_op op_fdivW (pe_ix ix_list (pv 0) pe_int (fun _ _ => rfl)) (pv 1)) (pg_sub (pv 0) pe_int set_list))
            (pss_one (ps_ret (pv 2))))) pss_nil)
      (pss_cons (ps_set (i := 3) scD.nd rfl (Or.inl rfl) (pe_op op_mod (pe_op op_pow (pe_op op_add (pe_op op_add (pe_ix ix_list (pv 0) pe_int (fun _ _ => rfl)) (pe_op op_mul pe_int (pe_ix ix_list (pv 0) pe_int (fun _ _ => rfl)))) pe_int) pe_int) pe_int))
        (pss_one (ps_ret (pe_op op_mod (pe_op op_mod (pe_op op_pow (pe_op op_add (pe_op op_add (pe_op op_mul (pv 3) pe_int)
            (pe_op op_mul (pe_op op_mul pe_int (pe_ix ix_list (pv 0) pe_int (fun _ _ => rfl))) (pe_ix ix_list (pv 0) pe_int (fun _ _ => rfl)))) pe_int) pe_int) pe_int) (pv 1))))))), ?_⟩
    obtain ⟨ns, a, m, hS, hns, ha, hm, hm2⟩ := S.ex
    -- stream[2] = stream[2] + 1
    refine ⟨fun σ H' => σ = [some (.ref st), some (.int many), none, none] ∧ But st l H H' ∧ SV H' st l ns a ((c + 1 : Nat) : Int) m,
      ⟨_, rfl, st, _, _, _, rfl, rfl, SqL.of hS.1, rfl, _, _, rfl, rfl, _, rfl, st, _, 2, 2, rfl, rfl, hS.1, rfl, rfl, But.refl.st, hS.st rfl⟩, ?_⟩
    rintro _ H1 ⟨rfl, B1, S1⟩
    -- if stream[1] == 0 and stream[0] != []: ..
    refine ⟨fun σ H' => σ = [some (.ref st), some (.int many), none, none] ∧ But st l H H' ∧ Good H' st l ((c + 1 : Nat) : Int),
      ⟨_, rfl, st, _, _, _, rfl, rfl, SqL.of S1.1, rfl, rfl, _, rfl, ?_⟩, ?_⟩
    · refine ite2 (fun ea => ?_) (fun _ => iteF ⟨rfl, B1, ns, a, m, S1, hns, ha, hm, hm2⟩)
      refine ⟨_, rfl, st, _, _, _, rfl, rfl, SqL.of S1.1, rfl, Nat.zero_le _, fun p hp => ?_⟩
      have S2 := S1.new (o := .lst []) hp
      have B2 := B1.new (o := .lst []) hp
      refine ⟨.list (ns.map .int), .list [], .lst (SqL.of S2.2) ?_, .lst (SqL.of upd_same) .nil, ?_, rfl, _, rfl, ?_⟩
      · exact dp_ints ns
      · exact PySem.W.shaped_ints ns
      · cases ns with
        | nil => exact iteF ⟨rfl, B2, [], a, m, S2, hns, ha, hm, hm2⟩
        | cons n r =>
          refine iteT ?_
          have hns' : r.length ≤ 63 := by
            rw [List.length_cons] at hns
            omega
          have e0 : seqIndex? 0 (((n :: r).map V.int).length) = some 0 := by
            rw [List.length_map, List.length_cons]
            simp [seqIndex?]
          -- stream[1] = stream[0].pop(0)
          refine ⟨fun σ H' => σ = [some (.ref st), some (.int many), none, none] ∧ But st l H H' ∧ SV H' st l r n ((c + 1 : Nat) : Int) m,
            ⟨_, rfl, st, _, _, _, rfl, rfl, SqL.of S2.1, rfl, .inl ⟨rfl, _, SqL.of S2.2⟩, l, _, 0, 0, _, rfl, rfl, S2.2, by decide, by decide, e0, rfl, _, rfl, st, _, 1, 1, rfl, rfl, (S2.li (ns' := r) rfl).1, rfl, rfl, B2.li.st, (S2.li (ns' := r) rfl).st rfl⟩, ?_⟩
          rintro _ H3 ⟨rfl, B3, S3⟩
          -- if stream[1] < 10 ** 18: ..
          refine ⟨_, rfl, st, _, _, _, rfl, rfl, SqL.of S3.1, rfl, _, _, rfl, rfl, ⟨by decide, by decide, by decide⟩, _, _, rfl, rfl, _, rfl, ?_⟩
          refine ite2 (fun lt => ?_) (fun ge => ?_)
          · refine ⟨fun σ H' => σ = [some (.ref st), some (.int many), none, none] ∧ But st l H H' ∧ ∃ m' : Int, SV H' st l r n ((c + 1 : Nat) : Int) m' ∧ 0 ≤ m' ∧ m' < 2147483647,
              ⟨_, rfl, st, _, _, _, rfl, rfl, SqL.of S3.1, rfl, _, _, rfl, rfl, .inr ⟨by decide, by decide⟩, _, rfl, st, _, _, _, rfl, rfl, SqL.of S3.1, rfl, _, _, rfl, rfl, _, _, rfl, rfl, .inl ⟨_, rfl, _, _, rfl, rfl, (by show (0 : Int) < 2147483647; decide),
                _, rfl, st, _, 3, 3, rfl, rfl, S3.1, rfl, rfl, B3.st, _, S3.st rfl, Int.emod_nonneg _ (by decide), Int.emod_lt_of_pos _ (by decide)⟩⟩, ?_⟩
            rintro _ H4 ⟨rfl, B4, m', S4, h1, h2⟩
            exact ⟨_, rfl, st, _, 1, 1, rfl, rfl, S4.1, rfl, rfl, B4.st, r, 0, m', S4.st rfl, hns', by decide, h1, h2⟩
          · have ge' : ¬ n < (10 : Int) ^ (18 : Int).toNat := fun z => ge (decide_eq_true z)
            have e : (10 : Int) ^ (18 : Int).toNat = 1000000000000000000 := by decide
            rw [e] at ge'
            exact ⟨rfl, B3, r, n, m, S3, hns', by omega, hm, hm2⟩
    · rintro _ H3 ⟨rfl, B3, ns3, a3, m3, S3, hns3, ha3, hm3, hm33⟩
      have ml : many.natAbs.log2 < 9000 := by
        have := PySem.Flt.log2_lt_of (k := 20) (by decide) (show many.natAbs < 2 ^ 20 by omega)
        omega
      -- if stream[1] > 0: ..
      refine ⟨fun σ H' => σ = [some (.ref st), some (.int many), none, none] ∧ But st l H H' ∧ Good H' st l ((c + 1 : Nat) : Int),
        ⟨_, rfl, st, _, _, _, rfl, rfl, SqL.of S3.1, rfl, _, _, rfl, rfl, _, rfl, ?_⟩, ?_⟩
      · refine ite2 (fun _ => ?_) (fun _ => ⟨rfl, B3, ns3, a3, m3, S3, hns3, ha3, hm3, hm33⟩)
        refine ⟨_, rfl, st, _, _, _, rfl, rfl, SqL.of S3.1, rfl, .inl ⟨_, rfl, _, rfl, _, _, rfl, rfl, hm0, ?_⟩⟩
        refine ⟨_, rfl, st, _, _, _, rfl, rfl, SqL.of S3.1, rfl, _, rfl, _, _, rfl, rfl, ⟨hm0, ml⟩, _, rfl, st, _, 1, 1, rfl, rfl, S3.1, rfl, _, rfl, ?_⟩
        exact k _ _ (Int.emod_nonneg _ (by omega)) (Int.emod_lt_of_pos _ hm0) B3.st ⟨ns3, a3 / many, m3, S3.st rfl, hns3, Int.ediv_nonneg ha3 (by omega), hm3, hm33⟩
      · rintro _ H4 ⟨rfl, B4, ns4, a4, m4, S4, hns4, ha4, hm4, hm44⟩
        refine ⟨_, rfl, st, _, _, _, rfl, rfl, SqL.of S4.1, rfl, _, rfl, st, _, _, _, rfl, rfl, SqL.of S4.1, rfl, _, _, rfl, rfl, .inl ⟨by decide, by decide⟩, _, _, rfl, rfl, _, _, rfl, rfl, _, _, rfl, rfl, ⟨by decide, by decide, by omega⟩, _, _, rfl, rfl, (by show (0 : Int) < 2147483629; decide), ?_⟩
        generalize hx : (m4 + 104729 * ((c + 1 : Nat) : Int) + 17) ^ (5 : Int).toNat % 2147483629 = x
        have x0 : 0 ≤ x := by
          rw [← hx]
          exact Int.emod_nonneg _ (by decide)
        have x1 : x < 2147483629 := by
          rw [← hx]
          exact Int.emod_lt_of_pos _ (by decide)
        have cc : 40503 * ((c + 1 : Nat) : Int) * ((c + 1 : Nat) : Int) ≤ 40503 * 1000001 * 1000001 := Int.mul_le_mul (by omega) (by omega) (by omega) (by decide)
        have c0 : 0 ≤ 40503 * ((c + 1 : Nat) : Int) * ((c + 1 : Nat) : Int) := Int.mul_nonneg (by omega) (by omega)
        refine ⟨_, rfl, _, _, rfl, rfl, .inr ⟨by decide, by decide⟩, _, rfl, st, _, _, _, rfl, rfl, SqL.of S4.1, rfl, _, _, rfl, rfl, .inl ⟨by decide, by decide⟩, _, rfl, st, _, _, _, rfl, rfl, SqL.of S4.1, rfl, _, _, rfl, rfl, .inr ⟨by omega, by omega⟩,
          _, _, rfl, rfl, _, _, rfl, rfl, _, _, rfl, rfl, ⟨by decide, by decide, by omega⟩, _, _, rfl, rfl, (by show (0 : Int) < 1000000007; decide), _, rfl, _, _, rfl, rfl, hm0, ?_⟩
        exact k _ _ (Int.emod_nonneg _ (by omega)) (Int.emod_lt_of_pos _ hm0) B4 ⟨ns4, a4, m4, S4, hns4, ha4, hm4, hm44⟩
end
theorem at_int {α : Type} {xs : List α} {d : Int} (d0 : 0 ≤ d) (d1 : d < xs.length) : ∃ (i : Nat) (x : α), xs[i]? = some x ∧ atI xs d = some x := by
  obtain ⟨n, rfl⟩ := Int.eq_ofNat_of_zero_le d0
  have hlt : n < xs.length := by omega
  exact ⟨n, xs[n], List.getElem?_eq_getElem hlt, atI_nat (List.getElem?_eq_getElem hlt)⟩
theorem But.trans {st l : Addr} {H H1 H2 : Hp} (a : But st l H H1) (b : But st l H1 H2) : But st l H H2 := fun c o h n1 n2 => b c o (a c o h n1 n2) n1 n2
theorem But.same {st l : Addr} {H H1 : Hp} (a : Same H H1) : But st l H H1 := fun c o h _ _ => a c o h
theorem Strm.up {H H' : Hp} {st l : Addr} {c : Nat} (S : Strm H st l c) (e : Same H H') : Strm H' st l c := by
  obtain ⟨ns, a, m, ⟨h1, h2⟩, r⟩ := S.ex
  exact ⟨ns, a, m, ⟨e _ _ h1, e _ _ h2⟩, r⟩
theorem same_new {H : Hp} {p : Addr} {o : HO} (h : H p = none) : Same H (upd H p o) := fun a u e => by
  rw [upd_ne (ne_of_none e h)]
  exact e
theorem Strm.ne_new {H : Hp} {st l p : Addr} {c : Nat} (S : Strm H st l c) (h : H p = none) : p ≠ st ∧ p ≠ l := by
  obtain ⟨ns, a, m, ⟨h1, h2⟩, r⟩ := S.ex
  exact ⟨(ne_of_none h1 h).symm, (ne_of_none h2 h).symm⟩
theorem But.put {st l p : Addr} {H H' : Hp} {o : HO} (a : But st l H H') (h : H p = none) : But st l H (upd H' p o) := fun c u e n1 n2 => by
  rw [upd_ne (ne_of_none e h)]
  exact a c u e n1 n2
theorem Strm.put {H : Hp} {st l p : Addr} {c : Nat} {o : HO} (S : Strm H st l c) (n : p ≠ st ∧ p ≠ l) : Strm (upd H p o) st l c := by
  obtain ⟨ns, a, m, ⟨h1, h2⟩, r⟩ := S.ex
  exact ⟨ns, a, m, ⟨by rw [upd_ne n.1.symm]; exact h1, by rw [upd_ne n.2.symm]; exact h2⟩, r⟩
def spPickL : Sp := fun vs H Q _ => ∃ (st l : Addr) (c : Nat) (p : Addr) (xs : List V), vs = [.ref st, .ref p] ∧ Strm H st l c ∧ c ≤ 1000000 ∧ H p = some (.lst xs) ∧ p ≠ st ∧ p ≠ l ∧ 0 < xs.length ∧ xs.length < 1000 ∧
  ∀ (i : Nat) (x : V) (H' : Hp), xs[i]? = some x → But st l H H' → Strm H' st l (c + 1) → Q x H'
def spPickS : Sp := fun vs H Q _ => ∃ (st l : Addr) (c : Nat) (z : Str), vs = [.ref st, .str z] ∧ Strm H st l c ∧ c ≤ 1000000 ∧ 0 < z.length ∧ z.length < 1000 ∧
  ∀ (ch : Nat) (H' : Hp), ch ∈ z.cps.toList → But st l H H' → Strm H' st l (c + 1) → Q (.str ⟨#[ch]⟩) H'
def spPick : Sp := fun vs H Q E => spPickL vs H Q E ∨ spPickS vs H Q E
/-- what the small defs lean on -/
structure TG1 (K : PySem.W.Frag) (mg : Str → Option Value) (fD : Addr) (fdD : FuncData) : Prop where
  int : mg "int" = none
  len : mg "len" = none
  range : mg "range" = none
  list : mg "list" = none
  mD : mg "_law_draw" = some (.ref fD)
  kD : PySem.W.keepIn K (.ref fD) = true
  bD : L2.Binds K fdD ["_law_stream", "_law_many"] []
section
variable {P : Program} {w : World} {K : PySem.W.Frag} {mg : Str → Option Value} {base : Heap} {fD : Addr} {fdD : FuncData}
theorem scP : FnScope ["_law_stream", "_law_things"] ["_law_stream", "_law_things"] (defScope sPick) := ⟨rfl, rfl, rfl, by decide +kernel, rfl, by decide +kernel, by decide +kernel⟩
theorem ok_pick {f : Addr} {fd : FuncData} (F : Fun K "_law_pick" "_law_pick" sPick f fd) (T : TG1 K mg fD fdD) (GD : FnOk P w K mg base CX0 1 fD fdD ["_law_stream", "_law_many"] spDraw) : FnOk P w K mg base CX0 2 f fd ["_law_stream", "_law_things"] spPick := by
  refine F.ok scP (fun vs H Q E h => ?_) (fun cdv A outer s H vs Q E hr h => ?_)
  · rcases h with ⟨st, l, c, p, xs, rfl, _⟩ | ⟨st, l, c, z, rfl, _⟩
    · rfl
    · rfl
  · rcases h with ⟨st, l, c, p, xs, rfl, S, hc, hp, n1, n2, h0, h1, k⟩ | ⟨st, l, c, z, rfl, S, hc, h0, h1, k⟩
    · refine ⟨_, pss_one (ps_ret (pe_ix ix_list (pv 1) (pe_call GD hr rfl T.mD T.kD T.bD .nil pass0 (pa_cons (pv 0) (pa_cons (pe_callB call_len_seq (by rfl) T.len PySem.boot_len (pa_cons (pv 1) pa_nil)) pa_nil))) (fun _ _ => rfl))), ?_⟩
      refine ⟨_, rfl, _, rfl, _, rfl, p, xs, rfl, .inl (SqL.of hp), st, l, c, _, rfl, S, hc, by omega, by omega, fun d H' d0 d1 B S' => ?_⟩
      have hp' := B _ _ hp n1 n2
      obtain ⟨i, x, hx, ha⟩ := at_int d0 d1
      exact ⟨p, xs, d, x, rfl, rfl, SqL.of hp', ha, k _ _ _ hx B S'⟩
    · refine ⟨_, pss_one (ps_ret (pe_ix ix_str (pv 1) (pe_call GD hr rfl T.mD T.kD T.bD .nil pass0 (pa_cons (pv 0) (pa_cons (pe_callB call_len_str (by rfl) T.len PySem.boot_len (pa_cons (pv 1) pa_nil)) pa_nil))) (fun _ _ => rfl))), ?_⟩
      have hzs : z.length ≤ sizeLine := Nat.le_of_lt (Nat.lt_of_lt_of_le h1 (by decide))
      refine ⟨_, rfl, _, rfl, _, rfl, z, rfl, hzs, st, l, c, _, rfl, S, hc, by omega, by omega, fun d H' d0 d1 B S' => ?_⟩
      have el : z.cps.toList.length = z.length := by simp [Str.length]
      obtain ⟨i, x, hx, ha⟩ := at_int (xs := z.cps.toList) d0 (by rw [el]; exact d1)
      exact ⟨z, d, x, rfl, rfl, hzs, ha, k _ _ (List.mem_of_getElem? hx) B S'⟩
end
end G

set_option maxHeartbeats 3900000
namespace G
open PySem PySem.Spec PyProof.Rows L2 TL
open C8 (pss_cut tCut pe_gc)
/-! names, lists of texts -/
def IsNm (z : Str) : Prop := 1 ≤ z.length ∧ z.length ≤ 8 ∧ ∀ c ∈ tl z, 97 ≤ c ∧ c ≤ 122
instance (z : Str) : Decidable (IsNm z) := by unfold IsNm; infer_instance
abbrev letters : Str := "abcdefghijklmnopqrstuvwxyz"
theorem letter_at : ∀ i, i < 26 → (letters.cps.toList)[i]? = some (97 + i) := by decide +kernel
theorem letters_all : ∀ c ∈ letters.cps.toList, 97 ≤ c ∧ c ≤ 122 := by decide +kernel
theorem join_one : ∀ cs : List Nat, tl (Txt.join "" (cs.map fun c => (⟨#[c]⟩ : Str))) = cs
  | [] => by
    rw [join_eq]
    rfl
  | [c] => by
    rw [join_eq]
    rfl
  | c :: d :: r => by
    have ih := join_one (d :: r)
    rw [join_eq] at ih ⊢
    have e : Str.join "" ((c :: d :: r).map fun c => (⟨#[c]⟩ : Str)) = (⟨#[c]⟩ : Str) ++ "" ++ Str.join "" ((d :: r).map fun c => (⟨#[c]⟩ : Str)) := rfl
    rw [e, tl_append, tl_append, ih]
    rfl
theorem len_tl (z : Str) : z.length = (tl z).length := by simp [Str.length, tl]
theorem name_of_letters {cs : List Nat} (h1 : 1 ≤ cs.length) (h8 : cs.length ≤ 8) (h : ∀ c ∈ cs, 97 ≤ c ∧ c ≤ 122) : IsNm (Txt.join "" (cs.map fun c => (⟨#[c]⟩ : Str))) := by
  refine ⟨?_, ?_, ?_⟩
  · rw [len_tl, join_one]
    exact h1
  · rw [len_tl, join_one]
    exact h8
  · rw [join_one]
    exact h
/-- the spare names -/
def spare (i : Nat) : Str := "q" ++ (⟨#[97 + i / 26]⟩ : Str) ++ (⟨#[97 + i % 26]⟩ : Str)
theorem spare_tl (i : Nat) : tl (spare i) = [113, 97 + i / 26, 97 + i % 26] := by
  unfold spare
  rw [tl_append, tl_append]
  rfl
theorem spare_nm {i : Nat} (h : i < 676) : IsNm (spare i) := by
  refine ⟨?_, ?_, ?_⟩
  · rw [len_tl, spare_tl]
    exact Nat.succ_le_succ (Nat.zero_le 2)
  · rw [len_tl, spare_tl]
    exact Nat.le_of_ble_eq_true rfl
  · rw [spare_tl]
    intro c hc
    simp only [List.mem_cons, List.not_mem_nil, or_false] at hc
    omega
theorem spare_inj {i j : Nat} (h : spare i = spare j) : i = j := by
  have e := congrArg tl h
  rw [spare_tl, spare_tl] at e
  simp only [List.cons.injEq, and_true, true_and] at e
  omega
theorem pigeon {α : Type} [DecidableEq α] : ∀ (l m : List α), l.Nodup → (∀ x ∈ l, x ∈ m) → l.length ≤ m.length
  | [], _, _, _ => Nat.zero_le _
  | x :: r, m, nd, h => by
    have hx := h x List.mem_cons_self
    have nd2 := List.nodup_cons.mp nd
    have ih := pigeon r (m.erase x) nd2.2 fun y hy => (List.mem_erase_of_ne fun z => nd2.1 (by rw [← z]; exact hy)).mpr (h y (List.mem_cons_of_mem _ hy))
    rw [List.length_erase_of_mem hx] at ih
    have := List.length_pos_of_mem hx
    rw [List.length_cons]
    omega
theorem spares_many {taken : List Str} (h : ∀ i, i < 676 → spare i ∈ taken) : 100 ≤ taken.length := by
  have q := pigeon ((List.range 100).map spare) taken ?_ ?_
  · rw [List.length_map, List.length_range] at q
    exact q
  · exact List.Pairwise.map spare (fun a b h e => h (spare_inj e)) List.nodup_range
  · intro x hx
    obtain ⟨i, hi, rfl⟩ := List.mem_map.mp hx
    exact h i (by have := List.mem_range.mp hi; omega)
theorem inV_strs (z : Str) : ∀ zs : List Str, inV (.str z) (zs.map V.str) = decide (z ∈ zs)
  | [] => rfl
  | y :: r => by
    have ih := inV_strs z r
    show (eqV (.str y) (.str z) || inV (.str z) (r.map V.str)) = decide (z ∈ y :: r)
    rw [ih]
    show ((y == z) || decide (z ∈ r)) = decide (z ∈ y :: r)
    by_cases e : y = z
    · subst e
      simp
    · have e2 : z ≠ y := fun q => e q.symm
      simp [e, e2]
theorem flat_strs : ∀ zs : List Str, (zs.map V.str).all flatV = true
  | [] => rfl
  | _ :: r => flat_strs r
/-- a list of texts is none of the stream's lists -/
theorem strs_but {H H' : Hp} {st l p : Addr} {c : Nat} {z : Str} {zs : List V} (S : Strm H st l c) (B : But st l H H') (h : H p = some (.lst (.str z :: zs))) : H' p = some (.lst (.str z :: zs)) := by
  obtain ⟨ns, a, m, ⟨h1, h2⟩, _⟩ := S.ex
  refine B _ _ h (ne_of h h1 fun q => ?_) (ne_of h h2 fun q => ?_)
  · have := HO.lst.inj q
    have := (List.cons.inj this).1
    cases this
  · have e : V.str z :: zs = ns.map V.int := HO.lst.inj q
    cases ns with
    | nil => cases e
    | cons n r =>
      rw [List.map_cons] at e
      have := (List.cons.inj e).1
      cases this
end G

set_option maxHeartbeats 3900000
namespace G
open PySem PySem.Spec PyProof.Rows L2 TL
open C8 (pss_cut tCut pe_gc)
abbrev sLook : Stmt := top 44
abbrev sLooks : Stmt := top 45
theorem at_map {α β : Type} {f : α → β} {xs : List α} {d : Int} {x : α} (h : atI xs d = some x) : atI (xs.map f) d = some (f x) := by
  unfold atI at h ⊢
  rw [List.length_map]
  cases e : ixN xs.length d with
  | none =>
    rw [e] at h
    cases h
  | some j =>
    rw [e] at h
    have h2 : xs[j]? = some x := h
    show (xs.map f)[j]? = some (f x)
    rw [List.getElem?_map, h2]
    rfl
/-- a def as others call it -/
structure At (K : PySem.W.Frag) (mg : Str → Option Value) (x : Str) (f : Addr) (fd : FuncData) (ps : List Str) : Prop where
  m : mg x = some (.ref f)
  k : PySem.W.keepIn K (.ref f) = true
  b : L2.Binds K fd ps []
structure TB (mg : Str → Option Value) : Prop where
  int : mg "int" = none
  len : mg "len" = none
  range : mg "range" = none
  list : mg "list" = none
  tuple : mg "tuple" = none
  any : mg "any" = none
  all : mg "all" = none
  sorted : mg "sorted" = none
  isinstance : mg "isinstance" = none
  enumerate : mg "enumerate" = none
  zip : mg "zip" = none
  str : mg "str" = none
abbrev aD' (K : PySem.W.Frag) (mg : Str → Option Value) (f : Addr) (fd : FuncData) := At K mg "_law_draw" f fd ["_law_stream", "_law_many"]
def texts : List Str := ["", "x", "y", "x y", "no", "yes", "a/b", "-", "xa", "xb", "X"]
def spText : Sp := fun vs H Q _ => ∃ (st l : Addr) (c : Nat), vs = [.ref st] ∧ Strm H st l c ∧ c ≤ 1000000 ∧
  ∀ (z : Str) (H' : Hp), z ∈ texts → But st l H H' → Strm H' st l (c + 1) → Q (.str z) H'
/-- a list of names, where the stream is none of it -/
structure Pool (H : Hp) (st l p : Addr) (zs : List Str) : Prop where
  h : H p = some (.lst (zs.map V.str))
  n1 : p ≠ st
  n2 : p ≠ l
theorem Pool.but {H H' : Hp} {st l p : Addr} {zs : List Str} (h : Pool H st l p zs) (B : But st l H H') : Pool H' st l p zs := ⟨B _ _ h.h h.n1 h.n2, h.n1, h.n2⟩
def spPath : Sp := fun vs H Q _ => ∃ (st l p : Addr) (c : Nat) (zs : List Str) (most : Int), vs = [.ref st, .ref p, .int most] ∧ Strm H st l c ∧ c ≤ 900000 ∧ Pool H st l p zs ∧ 0 < zs.length ∧ zs.length < 1000 ∧ (∀ z ∈ zs, IsNm z) ∧ 0 < most ∧ most < 1000 ∧
  ∀ (ys : List Str) (H' : Hp) (c' : Nat), 1 ≤ ys.length → (ys.length : Int) ≤ most → (∀ y ∈ ys, y ∈ zs) → But st l H H' → Strm H' st l c' → c' ≤ c + 1 + most.toNat → Q (.str (Txt.join "/" ys)) H'
def spFresh : Sp := fun vs H Q _ => ∃ (st l p : Addr) (c : Nat) (zs : List Str), vs = [.ref st, .ref p] ∧ Strm H st l c ∧ c ≤ 900000 ∧ Pool H st l p zs ∧ zs.length < 100 ∧
  ∀ (z : Str) (H' : Hp) (c' : Nat), IsNm z → z ∉ zs → But st l H H' → Strm H' st l c' → c' ≤ c + 11 → Q (.str z) H'
section
variable {P : Program} {w : World} {K : PySem.W.Frag} {mg : Str → Option Value} {base : Heap} {fD fP fPa fFr : Addr} {fdD fdP fdPa fdFr : FuncData}
theorem scTe : FnScope ["_law_stream"] ["_law_stream"] (defScope sText) := ⟨rfl, rfl, rfl, by decide +kernel, rfl, by decide +kernel, by decide +kernel⟩
theorem ok_text {f : Addr} {fd : FuncData} (F : Fun K "_law_text" "_law_text" sText f fd) (aD : aD' K mg fD fdD) (GD : FnOk P w K mg base CX0 1 fD fdD ["_law_stream", "_law_many"] spDraw) : FnOk P w K mg base CX0 2 f fd ["_law_stream"] spText := by
  refine F.ok scTe (fun vs H Q E h => ?_) (fun cdv A outer s H vs Q E hr h => ?_)
  · obtain ⟨st, l, c, rfl, _⟩ := h
    rfl
  · obtain ⟨st, l, c, rfl, S, hc, k⟩ := h
    refine ⟨_, pss_one (ps_ret (pe_ix ix_list (pe_lst (pa_cons pe_str (pa_cons pe_str (pa_cons pe_str (pa_cons pe_str (pa_cons pe_str (pa_cons pe_str (pa_cons pe_str (pa_cons pe_str (pa_cons pe_str (pa_cons pe_str (pa_cons pe_str pa_nil)))))))))))) (pe_call GD (hr.mono (by decide)) rfl aD.m aD.k aD.b .nil pass0 (pa_cons (pv 0) (pa_cons pe_int pa_nil))) (fun _ _ => rfl))), ?_⟩
    refine ⟨by show 11 ≤ sizeLine; decide, fun p hp => ?_⟩
    have np := S.ne_new hp
    refine ⟨_, rfl, st, l, c, _, rfl, S.up (same_new hp), by omega, by decide, by decide, fun d H' d0 d1 B S' => ?_⟩
    have hp' := B _ _ upd_same np.1 np.2
    obtain ⟨i, x, hx, ha⟩ := at_int (xs := texts.map V.str) d0 (by exact d1)
    obtain ⟨z, hz, rfl⟩ := List.mem_map.mp (List.mem_of_getElem? hx)
    exact ⟨p, texts.map V.str, d, .str z, rfl, rfl, SqL.of hp', ha, k _ _ hz ((But.same (same_new hp)).trans B) S'⟩
theorem scPa : FnScope ["_law_stream", "_law_pool_here", "_law_most", "_law_k"] ["_law_stream", "_law_pool_here", "_law_most"] (defScope sPath) := ⟨rfl, rfl, rfl, by decide +kernel, rfl, by decide +kernel, by decide +kernel⟩
theorem names_len {ys : List Str} (h : ∀ y ∈ ys, y.length ≤ 8) : (ys.map (·.length)).sum ≤ ys.length * 8 := by
  induction ys with
  | nil => exact Nat.le_refl _
  | cons y r ih =>
    have := ih fun z hz => h z (List.mem_cons_of_mem _ hz)
    have := h y List.mem_cons_self
    simp only [List.map_cons, List.sum_cons, List.length_cons]
    omega
theorem ok_path {f : Addr} {fd : FuncData} (F : Fun K "_law_path" "_law_path" sPath f fd) (T : TB mg) (aD : aD' K mg fD fdD) (aP : At K mg "_law_pick" fP fdP ["_law_stream", "_law_things"]) (GD : FnOk P w K mg base CX0 1 fD fdD ["_law_stream", "_law_many"] spDraw)
    (GP : FnOk P w K mg base CX0 2 fP fdP ["_law_stream", "_law_things"] spPick) : FnOk P w K mg base CX0 3 f fd ["_law_stream", "_law_pool_here", "_law_most"] spPath := by
  refine F.ok scPa (fun vs H Q E h => ?_) (fun cdv A outer s H vs Q E hr h => ?_)
  · obtain ⟨st, l, p, c, zs, most, rfl, _⟩ := h
    rfl
  · obtain ⟨st, l, p, c, zs, most, rfl, S, hc, L, z0, z1, nm, m0, m1, k⟩ := h
    refine ⟨_, pss_one (ps_ret (pe_join pe_str (pe_lc (own := [("_law_k", 3)]) (g := gName 3) (tt := tYes) rfl scPa.nd (pi_range1 rfl T.range (pa_cons (pe_op op_add pe_int (pe_call GD (hr.mono (by decide)) rfl aD.m aD.k aD.b .nil pass0 (pa_cons (pv 0) (pa_cons (pv 2) pa_nil)))) pa_nil)) (blkOk_by (own := [("_law_k", 3)]) (N := ["_law_stream", "_law_pool_here", "_law_most", "_law_k"]) (sc := defScope sPath) (by decide +kernel)) (fun _ _ _ _ _ => (pg_name (i := 3) scPa.nd rfl (Or.inl rfl))) (fun _ _ _ _ _ => pts_nil) (fun _ _ _ _ _ => (pe_call GP (hr.mono (by decide)) rfl aP.m aP.k aP.b .nil pass0 (pa_cons (pv 0) (pa_cons (pv 1) pa_nil))))))), ?_⟩
    refine ⟨⟨_, rfl⟩, _, rfl, _, rfl, st, l, c, _, rfl, S, by omega, m0, by omega, fun d H1 d0 d1 B1 S1 => ?_⟩
    obtain ⟨n, hn⟩ : ∃ n : Nat, 1 + d = (n : Int) := ⟨(1 + d).toNat, by omega⟩
    refine ⟨_, _, rfl, rfl, 1 + d, rfl, by omega, by omega, fun D hD => ?_⟩
    rw [show (1 + d).toNat = n by omega]
    refine lc_range (lo := 0) (n := n) (fun i H' => But st l H1 H' ∧ Strm H' st l (c + 1 + i) ∧ ∃ ys : List Str, ys.length = i ∧ H' D = some (.lst (ys.map V.str)) ∧ ∀ y ∈ ys, y ∈ zs)
      ⟨But.same (same_new hD), S1.up (same_new hD), [], rfl, upd_same, by simp⟩ ?_ ?_
    · rintro i H' hi ⟨B', S', ys, hy, hD', hs⟩
      have nD := S1.ne_new hD
      have L' := L.but (B1.trans B')
      refine ⟨rfl, _, rfl, _, rfl, .inl ⟨st, l, c + 1 + i, p, zs.map V.str, rfl, S', by omega, L'.h, L'.n1, L'.n2, by rw [List.length_map]; exact z0, by rw [List.length_map]; exact z1, fun j x H'' hx B'' S'' => ?_⟩⟩
      obtain ⟨z, hz, rfl⟩ := List.mem_map.mp (List.mem_of_getElem? hx)
      refine ⟨_, B'' _ _ hD' nD.1 nD.2, ?_, (B'.trans B'').put hD, S''.put nD, ys ++ [z], ?_, ?_, fun y hy' => ?_⟩
      · rw [List.length_map, hy]
        exact Nat.lt_of_lt_of_le (show i < 1001 by omega) (by decide)
      · rw [List.length_append, hy]
        rfl
      · rw [upd_same, List.map_append]
        rfl
      · rcases List.mem_append.mp hy' with q | q
        · exact hs y q
        · rw [List.mem_singleton.mp q]
          exact hz
    · rintro H' ⟨B', S', ys, hy, hD', hs⟩
      refine ⟨_, D, ys, rfl, rfl, .inl (SqL.of hD'), ?_, k ys H' (c + 1 + n) (by omega) (by omega) hs (B1.trans B') S' (by omega)⟩
      have := names_len fun y q => (nm y (hs y q)).2.1
      have e : (("/" : Str).length) = 1 := by decide
      rw [e]
      omega
def fwords : List Str := ["read", "list", "setting", "tool", "end", "main", "none"]
theorem fwords_nm : ∀ z ∈ fwords, IsNm z := by decide +kernel
def nums : List Int := [1, 1, 1, 2, 3, 8]
theorem nums_ok : ∀ n ∈ nums, 1 ≤ n ∧ n ≤ 8 := by decide
theorem scFr : FnScope ["_law_stream", "_law_taken", "_law_letters", "_law_words", "_law_k", "_law_name", "_law_spare"] ["_law_stream", "_law_taken"] (defScope sFresh) := ⟨rfl, rfl, rfl, by decide +kernel, rfl, by decide +kernel, by decide +kernel⟩
theorem ok_fresh {f : Addr} {fd : FuncData} (F : Fun K "_law_fresh" "_law_fresh" sFresh f fd) (T : TB mg) (aD : aD' K mg fD fdD) (aP : At K mg "_law_pick" fP fdP ["_law_stream", "_law_things"]) (GD : FnOk P w K mg base CX0 1 fD fdD ["_law_stream", "_law_many"] spDraw)
    (GP : FnOk P w K mg base CX0 2 fP fdP ["_law_stream", "_law_things"] spPick) : FnOk P w K mg base CX0 3 f fd ["_law_stream", "_law_taken"] spFresh := by
  refine F.ok scFr (fun vs H Q E h => ?_) (fun cdv A outer s H vs Q E hr h => ?_)
  · obtain ⟨st, l, p, c, zs, rfl, _⟩ := h
    rfl
  · obtain ⟨st, l, p, c, zs, rfl, S, hc, L, z1, k⟩ := h
    refine ⟨_, pss_cut (ps_asg (pe_tup (pa_cons pe_str (pa_cons (pe_lst (pa_cons pe_str (pa_cons pe_str (pa_cons pe_str (pa_cons pe_str (pa_cons pe_str (pa_cons pe_str (pa_cons pe_str pa_nil)))))))) pa_nil))) (pg_tup rfl (pgs_cons (pg_name (i := 2) scFr.nd rfl (Or.inr rfl)) (pgs_cons (pg_name (i := 3) scFr.nd rfl (Or.inl rfl)) pgs_nil))))
        (pss_cut (ps_set (i := 5) scFr.nd rfl (Or.inl rfl) (pe_join pe_str (pe_lc (own := [("_law_k", 4)]) (g := gName 4) (tt := tYes) rfl scFr.nd (pi_range1 rfl T.range (pa_cons (pe_ix ix_list (pe_lst (pa_cons pe_int (pa_cons pe_int (pa_cons pe_int (pa_cons pe_int (pa_cons pe_int (pa_cons pe_int pa_nil))))))) (pe_call GD (hr.mono (by decide)) rfl aD.m aD.k aD.b .nil pass0 (pa_cons (pv 0) (pa_cons pe_int pa_nil))) (fun _ _ => rfl)) pa_nil)) (blkOk_by (own := [("_law_k", 4)]) (N := ["_law_stream", "_law_taken", "_law_letters", "_law_words", "_law_k", "_law_name", "_law_spare"]) (sc := defScope sFresh) (by decide +kernel)) (fun _ _ _ _ _ => (pg_name (i := 4) scFr.nd rfl (Or.inl rfl))) (fun _ _ _ _ _ => pts_nil) (fun _ _ _ _ _ => (pe_ix ix_str (pv 2) (pe_call GD (hr.mono (by decide)) rfl aD.m aD.k aD.b .nil pass0 (pa_cons (pv 0) (pa_cons pe_int pa_nil))) (fun _ _ => rfl))))))
        (pss_cut (ps_set (i := 5) scFr.nd rfl (Or.inl rfl) (pe_ifExp (pt_cmpR op_eq (pe_call GD (hr.mono (by decide)) rfl aD.m aD.k aD.b .nil pass0 (pa_cons (pv 0) (pa_cons pe_int pa_nil))) pe_int (nomark _)) (pe_call GP (hr.mono (by decide)) rfl aP.m aP.k aP.b .nil pass0 (pa_cons (pv 0) (pa_cons (pv 3) pa_nil))) (pv 5)))
        (pss_cut (ps_for PassesOwn.never rfl (pi_range1 rfl T.range (pa_cons (pe_op op_mul pe_int (pe_callTy call_int1 (by rfl) T.int (by decide +kernel) (pa_cons (pe_cmpR op_in_seq (pv 5) (pv 1) (by rfl)) pa_nil))) pa_nil)) (pg_name (i := 4) scFr.nd rfl (Or.inl rfl)) (pss_cut (ps_set (i := 6) scFr.nd rfl (Or.inl rfl) (pe_op op_add_str (pe_op op_add_str pe_str (pe_ix ix_str (pv 2) (pe_op op_fdiv (pv 4) pe_int) (fun _ _ => rfl))) (pe_ix ix_str (pv 2) (pe_op op_mod (pv 4) pe_int) (fun _ _ => rfl))))
        (pss_one (ps_if (pt_cmpR op_notIn_seq (pv 6) (pv 1) (by rfl)) (pss_one (ps_ret (pv 6))) (pss_nil)))))
        (pss_one (ps_ret (pv 5)))))), ?_⟩
    -- letters, words
    refine ⟨fun σ H' => ∃ q, σ = [some (.ref st), some (.ref p), some (.str letters), some (.ref q), none, none, none] ∧ But st l H H' ∧ Strm H' st l c ∧ Pool H' st l q fwords, ?_, ?_⟩
    · refine ⟨by show 7 ≤ sizeLine; decide, fun q hq => ⟨by show 2 ≤ sizeLine; decide, fun t ht => ?_⟩⟩
      have nq := S.ne_new hq
      have nt : q ≠ t := ne_of_none upd_same ht
      have s1 : Same H (upd (upd H q (.lst (fwords.map V.str))) t (.tup [.str letters, .ref q])) := (same_new hq).trans (same_new ht)
      exact ⟨t, _, rfl, SqT.of upd_same, rfl, _, _, rfl, _, _, rfl, rfl, q, rfl, But.same s1, S.up s1, ⟨by rw [upd_ne nt]; exact upd_same, nq.1, nq.2⟩⟩
    rintro _ H1 ⟨q, rfl, B1, S1, Lq⟩
    -- name = ''.join(..)
    refine ⟨fun σ H' => ∃ z x4 c', σ = [some (.ref st), some (.ref p), some (.str letters), some (.ref q), x4, some (.str z), none] ∧ IsNm z ∧ But st l H H' ∧ Strm H' st l c' ∧ c' ≤ c + 9 ∧ Pool H' st l q fwords, ?_, ?_⟩
    · refine ⟨⟨_, rfl⟩, by show 6 ≤ sizeLine; decide, fun u hu => ⟨_, rfl, st, l, c, _, rfl, S1.up (same_new hu), by omega, by decide, by decide, fun d H2 d0 d1 B2 S2 => ?_⟩⟩
      have nu := S1.ne_new hu
      have hu' := B2 _ _ upd_same nu.1 nu.2
      obtain ⟨i, x, hx, ha⟩ := at_int (xs := nums) d0 (by exact d1)
      obtain ⟨x0, x8⟩ := nums_ok x (List.mem_of_getElem? hx)
      obtain ⟨n, rfl⟩ := Int.eq_ofNat_of_zero_le (show 0 ≤ x by omega)
      have ha2 : atI (nums.map V.int) d = some (.int (n : Int)) := at_map ha
      refine ⟨u, _, d, _, rfl, rfl, SqL.of hu', ha2, (n : Int), rfl, by omega, by omega, fun D hD => ?_⟩
      have B02 : But st l H1 H2 := (But.same (same_new hu)).trans B2
      have nD := S2.ne_new hD
      refine lc_range (lo := 0) (n := n) (fun i H' => But st l H2 H' ∧ Strm H' st l (c + 1 + i) ∧ ∃ ys : List Nat, ys.length = i ∧ H' D = some (.lst ((ys.map fun c => (⟨#[c]⟩ : Str)).map V.str)) ∧ ∀ y ∈ ys, 97 ≤ y ∧ y ≤ 122)
        ⟨But.same (same_new hD), S2.up (same_new hD), [], rfl, upd_same, by simp⟩ ?_ ?_
      · rintro i H' hi ⟨B', S', ys, hy, hD', hs⟩
        refine ⟨rfl, _, rfl, _, rfl, st, l, c + 1 + i, _, rfl, S', by omega, by decide, by decide, fun e H'' e0 e1 B'' S'' => ?_⟩
        obtain ⟨j, y, hj, hat⟩ := at_int (xs := letters.cps.toList) e0 (by exact e1)
        refine ⟨letters, e, y, rfl, rfl, by decide, hat, _, B'' _ _ hD' nD.1 nD.2, ?_, (B'.trans B'').put hD, S''.put nD, ys ++ [y], ?_, ?_, fun v hv => ?_⟩
        · rw [List.length_map, List.length_map, hy]
          exact Nat.lt_of_lt_of_le (show i < 1001 by omega) (by decide)
        · rw [List.length_append, hy]
          rfl
        · rw [upd_same, List.map_append, List.map_append]
          rfl
        · rcases List.mem_append.mp hv with g | g
          · exact hs v g
          · rw [List.mem_singleton.mp g]
            exact letters_all y (List.mem_of_getElem? hj)
      · rintro H' ⟨B', S', ys, hy, hD', hs⟩
        refine ⟨_, D, ys.map fun c => ⟨#[c]⟩, rfl, rfl, .inl (SqL.of hD'), ?_, _, none, c + 1 + n, rfl, name_of_letters (by omega) (by omega) hs, B1.trans (B02.trans B'), S', by omega, (Lq.but B02).but B'⟩
        have := names_len (ys := ys.map fun c => (⟨#[c]⟩ : Str)) fun y q => by
          obtain ⟨c, _, rfl⟩ := List.mem_map.mp q
          exact (by decide : 1 ≤ 8)
        have e : (("" : Str).length) = 0 := by decide
        rw [e]
        rw [List.length_map] at this ⊢
        omega
    rintro _ H2 ⟨z, x4, c2, rfl, nz, B2, S2, hc2, Lq2⟩
    -- name = pick(words) if draw(9) == 0 else name
    refine ⟨fun σ H' => ∃ z x4 c', σ = [some (.ref st), some (.ref p), some (.str letters), some (.ref q), x4, some (.str z), none] ∧ IsNm z ∧ But st l H H' ∧ Strm H' st l c' ∧ c' ≤ c + 11, ?_, ?_⟩
    · refine ⟨_, rfl, st, l, c2, _, rfl, S2, by omega, by decide, by decide, fun d H3 d0 d1 B3 S3 => ⟨rfl, _, rfl, ?_⟩⟩
      refine ite2 (fun _ => ?_) (fun _ => ?_)
      · have Lq3 := Lq2.but B3
        refine ⟨_, rfl, _, rfl, .inl ⟨st, l, c2 + 1, q, _, rfl, S3, by omega, Lq3.h, Lq3.n1, Lq3.n2, by decide, by decide, fun j x H4 hx B4 S4 => ?_⟩⟩
        obtain ⟨y, hy, rfl⟩ := List.mem_map.mp (List.mem_of_getElem? hx)
        exact ⟨y, x4, c2 + 1 + 1, rfl, fwords_nm y hy, (B2.trans B3).trans B4, S4, by omega⟩
      · exact ⟨_, rfl, z, x4, c2 + 1, rfl, nz, B2.trans B3, S3, by omega⟩
    rintro _ H3 ⟨z, x4, c3, rfl, nz, B3, S3, hc3⟩
    have L3 := L.but B3
    -- the spare names
    refine ⟨fun σ H' => ∃ x4 x6, σ = [some (.ref st), some (.ref p), some (.str letters), some (.ref q), x4, some (.str z), x6] ∧ H' = H3 ∧ z ∉ zs, ?_, ?_⟩
    · refine ⟨_, rfl, _, rfl, p, _, rfl, .inl (SqL.of L3.h), rfl, flat_strs zs, .inr ⟨_, rfl, _, _, rfl, rfl, .inl ⟨by decide, by decide⟩, ?_⟩⟩
      have fz : (if false = true then !inV (.str z) (zs.map V.str) else inV (.str z) (zs.map V.str)) = decide (z ∈ zs) := inV_strs z zs
      rw [fz]
      by_cases hz : z ∈ zs
      · rw [decide_eq_true hz]
        refine ⟨676, rfl, by decide, by decide, for_range (lo := 0) (n := 676) (fun i σ H' => ∃ x4 x6, σ = [some (.ref st), some (.ref p), some (.str letters), some (.ref q), x4, some (.str z), x6] ∧ H' = H3 ∧ ∀ j, j < i → spare j ∈ zs)
          ⟨x4, none, rfl, rfl, fun j hj => absurd hj (Nat.not_lt_zero j)⟩ ?_ ?_⟩
        · rintro i _ H4 hi ⟨y4, y6, rfl, rfl, hs⟩
          have q1 : (0 + (i : Int)) / 26 = ((i / 26 : Nat) : Int) := by omega
          have q2 : (0 + (i : Int)) % 26 = ((i % 26 : Nat) : Int) := by omega
          refine ⟨fun σ H' => σ = [some (.ref st), some (.ref p), some (.str letters), some (.ref q), some (.int (0 + i)), some (.str z), some (.str (spare i))] ∧ H' = H4, ?_, ?_⟩
          · refine ⟨_, rfl, _, rfl, _, _, rfl, rfl, ⟨by decide, by decide⟩, letters, _, 97 + i / 26, rfl, rfl, by decide, ?_, _, _, rfl, rfl, (show 2 ≤ sizeLine by decide), _, rfl, _, rfl, _, _, rfl, rfl, (by show (0 : Int) < 26; decide), letters, _, 97 + i % 26, rfl, rfl, by decide, ?_, _, _, rfl, rfl, (show 3 ≤ sizeLine by decide), rfl, rfl⟩
            · rw [q1]
              exact atI_nat (letter_at _ (by omega))
            · rw [q2]
              exact atI_nat (letter_at _ (by omega))
          rintro _ _ ⟨rfl, rfl⟩
          refine ⟨_, rfl, _, rfl, p, _, rfl, .inl (SqL.of L3.h), rfl, flat_strs zs, ?_⟩
          have fs : (if true = true then !inV (.str (spare i)) (zs.map V.str) else inV (.str (spare i)) (zs.map V.str)) = !decide (spare i ∈ zs) := congrArg (! ·) (inV_strs (spare i) zs)
          rw [fs]
          by_cases hsp : spare i ∈ zs
          · rw [decide_eq_true hsp]
            refine ⟨_, rfl, iteF ⟨_, _, rfl, rfl, fun j hj => ?_⟩⟩
            rcases Nat.lt_succ_iff_lt_or_eq.mp hj with g | g
            · exact hs j g
            · rw [g]
              exact hsp
          · rw [decide_eq_false hsp]
            exact ⟨_, rfl, iteT ⟨_, rfl, k _ _ c3 (spare_nm hi) hsp B3 S3 hc3⟩⟩
        · rintro _ _ ⟨y4, y6, rfl, rfl, hs⟩
          have := spares_many hs
          omega
      · rw [decide_eq_false hz]
        refine ⟨0, rfl, by decide, by decide, for_range (lo := 0) (n := 0) (fun i σ H' => ∃ x4 x6, σ = [some (.ref st), some (.ref p), some (.str letters), some (.ref q), x4, some (.str z), x6] ∧ H' = H3) ⟨x4, none, rfl, rfl⟩ (fun i _ _ hi => absurd hi (Nat.not_lt_zero i)) ?_⟩
        rintro _ _ ⟨y4, y6, rfl, rfl⟩
        exact ⟨y4, y6, rfl, rfl, hz⟩
    rintro _ _ ⟨x4, x6, rfl, rfl, nin⟩
    exact ⟨_, rfl, k z _ c3 nz nin B3 S3 hc3⟩
end
end G

set_option maxHeartbeats 3900000
namespace G
open PySem PySem.Spec PyProof.Rows L2 TL
open C8 (pss_cut tCut pe_gc)
def spPool : Sp := fun vs H Q _ => ∃ (st l : Addr) (c : Nat) (many : Int), vs = [.ref st, .int many] ∧ Strm H st l c ∧ c ≤ 800000 ∧ 0 ≤ many ∧ many ≤ 50 ∧
  ∀ (p : Addr) (zs : List Str) (H' : Hp) (c' : Nat), (zs.length : Int) = many → zs.Nodup → (∀ z ∈ zs, IsNm z) → H p = none → Pool H' st l p zs → But st l H H' → Strm H' st l c' → c' ≤ c + 11 * many.toNat → Q (.ref p) H'
/-- a look: a file's, a folder's (no name: the root), a setting's, the tool's -/
inductive Lk
  | rd (p : List Str)
  | ls (p : List Str)
  | se (n : Str)
  | tl
deriving DecidableEq
abbrev js (p : List Str) : Str := Txt.join "/" p
def lkV : Lk → List V
  | .rd p => [.str "read", .str (js p)]
  | .ls p => [.str "list", .str (js p)]
  | .se n => [.str "setting", .str n]
  | .tl => [.str "tool"]
/-- a look over some names, with at most so many on a way -/
def LkOn (zs : List Str) (m : Nat) : Lk → Prop
  | .rd p => p ≠ [] ∧ p.length ≤ m ∧ ∀ y ∈ p, y ∈ zs
  | .ls p => p.length ≤ m ∧ ∀ y ∈ p, y ∈ zs
  | .se n => n ∈ zs
  | .tl => True
def spLook : Sp := fun vs H Q _ => ∃ (st l p : Addr) (c : Nat) (zs : List Str), vs = [.ref st, .ref p] ∧ Strm H st l c ∧ c ≤ 800000 ∧ Pool H st l p zs ∧ 0 < zs.length ∧ zs.length < 1000 ∧ (∀ z ∈ zs, IsNm z) ∧
  ∀ (t : Addr) (k : Lk) (H' : Hp) (c' : Nat), LkOn zs 3 k → H t = none → H' t = some (.tup (lkV k)) → But st l H H' → Strm H' st l c' → c' ≤ c + 6 → Q (.ref t) H'
section
variable {P : Program} {w : World} {K : PySem.W.Frag} {mg : Str → Option Value} {base : Heap} {fD fP fPa fFr : Addr} {fdD fdP fdPa fdFr : FuncData}
theorem scPo : FnScope ["_law_stream", "_law_many", "_law_found", "_law_k"] ["_law_stream", "_law_many"] (defScope sPool) := ⟨rfl, rfl, rfl, by decide +kernel, rfl, by decide +kernel, by decide +kernel⟩
theorem But.none {st l p : Addr} {H H' : Hp} (B : But st l H H') (h : H' p = Option.none) (n : p ≠ st ∧ p ≠ l) : H p = Option.none := by
  cases e : H p with
  | none => rfl
  | some o =>
    rw [B p o e n.1 n.2] at h
    cases h
theorem ok_pool {f : Addr} {fd : FuncData} (F : Fun K "_law_pool" "_law_pool" sPool f fd) (T : TB mg) (aFr : At K mg "_law_fresh" fFr fdFr ["_law_stream", "_law_taken"]) (GFr : FnOk P w K mg base CX0 3 fFr fdFr ["_law_stream", "_law_taken"] spFresh) : FnOk P w K mg base CX0 4 f fd ["_law_stream", "_law_many"] spPool := by
  refine F.ok scPo (fun vs H Q E h => ?_) (fun cdv A outer s H vs Q E hr h => ?_)
  · obtain ⟨st, l, c, many, rfl, _⟩ := h
    rfl
  · obtain ⟨st, l, c, many, rfl, S, hc, m0, m1, k⟩ := h
    obtain ⟨n, rfl⟩ := Int.eq_ofNat_of_zero_le m0
    refine ⟨_, pss_cut (ps_set (i := 2) scPo.nd rfl (Or.inl rfl) (pe_lst pa_nil))
        (pss_cut (ps_for PassesOwn.never rfl (pi_range1 rfl T.range (pa_cons (pv 1) pa_nil)) (pg_name (i := 3) scPo.nd rfl (Or.inl rfl)) (pss_one (ps_expr (pe_bm PySem.F.plainAttrs_list PySem.F.slot_list_append PySem.F.type_list_append mt_append (pv 2) (pa_cons (pe_call GFr (hr.mono (by decide)) rfl aFr.m aFr.k aFr.b .nil pass0 (pa_cons (pv 0) (pa_cons (pv 2) pa_nil))) pa_nil)))))
        (pss_one (ps_ret (pv 2)))), ?_⟩
    refine ⟨fun σ H' => ∃ p, σ = [some (.ref st), some (.int n), some (.ref p), none] ∧ H p = none ∧ H' = upd H p (.lst []), ⟨Nat.zero_le _, fun p hp => ⟨p, rfl, hp, rfl⟩⟩, ?_⟩
    rintro _ _ ⟨p, rfl, hp, rfl⟩
    have np := S.ne_new hp
    refine ⟨fun σ H' => ∃ x3 zs, σ = [some (.ref st), some (.int n), some (.ref p), x3] ∧ zs.length = n ∧ zs.Nodup ∧ (∀ z ∈ zs, IsNm z) ∧ Pool H' st l p zs ∧ But st l H H' ∧ ∃ c', Strm H' st l c' ∧ c' ≤ c + 11 * n, ?_, ?_⟩
    · refine ⟨_, rfl, n, rfl, by omega, by omega, for_range (lo := 0) (n := n) (fun i σ H' => ∃ x3 zs, σ = [some (.ref st), some (.int n), some (.ref p), x3] ∧ zs.length = i ∧ zs.Nodup ∧ (∀ z ∈ zs, IsNm z) ∧ Pool H' st l p zs ∧ But st l H H' ∧ ∃ c', Strm H' st l c' ∧ c' ≤ c + 11 * i)
        ⟨none, [], rfl, rfl, List.nodup_nil, by simp, ⟨upd_same, np.1, np.2⟩, But.same (same_new hp), c, S.up (same_new hp), by omega⟩ ?_ fun _ _ h => h⟩
      rintro i _ H1 hi ⟨x3, zs, rfl, hz, nd, nm, L, B, c1, S1, hc1⟩
      refine ⟨_, rfl, .inl ⟨rfl, _, SqL.of L.h⟩, _, rfl, _, rfl, st, l, p, c1, zs, rfl, S1, by omega, L, by omega, fun z H2 c2 nz nin B2 S2 hc2 => ?_⟩
      have L2 := L.but B2
      refine ⟨p, _, _, rfl, rfl, L2.h, ?_, _, zs ++ [z], rfl, by rw [List.length_append, hz]; rfl, List.nodup_append.mpr ⟨nd, List.nodup_cons.mpr ⟨by simp, List.nodup_nil⟩, ?_⟩, ?_, ⟨?_, L2.n1, L2.n2⟩, (B.trans B2).put hp, c2, S2.put np, by omega⟩
      · rw [List.length_map, hz]
        exact Nat.lt_of_lt_of_le (show i < 1001 by omega) (by decide)
      · intro a ha b hb e
        rw [e, List.mem_singleton.mp hb] at ha
        exact nin ha
      · intro y hy
        rcases List.mem_append.mp hy with q | q
        · exact nm y q
        · rw [List.mem_singleton.mp q]
          exact nz
      · rw [upd_same, List.map_append]
        rfl
    rintro _ H2 ⟨x3, zs, rfl, hz, nd, nm, L, B, c', S', hc'⟩
    exact ⟨_, rfl, k p zs H2 c' (by omega) nd nm hp L B S' (by omega)⟩
theorem scLo : FnScope ["_law_stream", "_law_pool_here", "_law_way"] ["_law_stream", "_law_pool_here"] (defScope sLook) := ⟨rfl, rfl, rfl, by decide +kernel, rfl, by decide +kernel, by decide +kernel⟩
theorem ok_look {f : Addr} {fd : FuncData} (F : Fun K "_law_look" "_law_look" sLook f fd) (T : TB mg) (aD : aD' K mg fD fdD) (aP : At K mg "_law_pick" fP fdP ["_law_stream", "_law_things"]) (aPa : At K mg "_law_path" fPa fdPa ["_law_stream", "_law_pool_here", "_law_most"]) (GD : FnOk P w K mg base CX0 1 fD fdD ["_law_stream", "_law_many"] spDraw)
    (GP : FnOk P w K mg base CX0 2 fP fdP ["_law_stream", "_law_things"] spPick) (GPa : FnOk P w K mg base CX0 3 fPa fdPa ["_law_stream", "_law_pool_here", "_law_most"] spPath) : FnOk P w K mg base CX0 4 f fd ["_law_stream", "_law_pool_here"] spLook := by
  refine F.ok scLo (fun vs H Q E h => ?_) (fun cdv A outer s H vs Q E hr h => ?_)
  · obtain ⟨st, l, p, c, zs, rfl, _⟩ := h
    rfl
  · obtain ⟨st, l, p, c, zs, rfl, S, hc, L, z0, z1, nm, k⟩ := h
    refine ⟨_, pss_cut (ps_set (i := 2) scLo.nd rfl (Or.inl rfl) (pe_call GD (hr.mono (by decide)) rfl aD.m aD.k aD.b .nil pass0 (pa_cons (pv 0) (pa_cons pe_int pa_nil))))
        (pss_cons (ps_if (pt_cmpR op_lt (pv 2) pe_int (nomark _)) (pss_one (ps_ret (pe_tup (pa_cons pe_str (pa_cons (pe_call GPa (hr.mono (by decide)) rfl aPa.m aPa.k aPa.b .nil pass0 (pa_cons (pv 0) (pa_cons (pv 1) (pa_cons pe_int pa_nil)))) pa_nil))))) (pss_nil))
        (pss_cons (ps_if (pt_cmpR op_lt (pv 2) pe_int (nomark _)) (pss_one (ps_ret (pe_tup (pa_cons pe_str (pa_cons (pe_ifExp (pt_cmpR op_eq (pe_call GD (hr.mono (by decide)) rfl aD.m aD.k aD.b .nil pass0 (pa_cons (pv 0) (pa_cons pe_int pa_nil))) pe_int (nomark _)) pe_str (pe_call GPa (hr.mono (by decide)) rfl aPa.m aPa.k aPa.b .nil pass0 (pa_cons (pv 0) (pa_cons (pv 1) (pa_cons pe_int pa_nil))))) pa_nil))))) (pss_nil))
        (pss_one (ps_ret (pe_ifExp (pt_cmpR op_eq (pv 2) pe_int (nomark _)) (pe_tup (pa_cons pe_str (pa_cons (pe_call GP (hr.mono (by decide)) rfl aP.m aP.k aP.b .nil pass0 (pa_cons (pv 0) (pa_cons (pv 1) pa_nil))) pa_nil))) (pe_tup (pa_cons pe_str pa_nil))))))), ?_⟩
    refine ⟨fun σ H' => ∃ d : Int, σ = [some (.ref st), some (.ref p), some (.int d)] ∧ But st l H H' ∧ Strm H' st l (c + 1), ⟨_, rfl, st, l, c, _, rfl, S, by omega, by decide, by decide, fun d H' d0 d1 B S' => ⟨d, rfl, B, S'⟩⟩, ?_⟩
    rintro _ H1 ⟨d, rfl, B1, S1⟩
    have L1 := L.but B1
    have fin : ∀ (k' : Lk) (H2 : Hp) (c2 : Nat) (t : Addr), LkOn zs 3 k' → But st l H1 H2 → Strm H2 st l c2 → c2 ≤ c + 6 → H2 t = none → Q (.ref t) (upd H2 t (.tup (lkV k'))) := fun k' H2 c2 t o B2 S2 hc2 ht =>
      k t k' _ c2 o (But.none (B1.trans B2) ht (S2.ne_new ht)) upd_same ((B1.trans B2).put (But.none (B1.trans B2) ht (S2.ne_new ht))) (S2.up (same_new ht)) hc2
    refine ⟨_, rfl, _, _, rfl, rfl, _, rfl, ite2 (fun _ => ?_) (fun _ => ?_)⟩
    · refine ⟨_, rfl, _, rfl, st, l, p, c + 1, zs, 3, rfl, S1, by omega, L1, z0, z1, nm, by decide, by decide, fun ys H2 c2 y1 y2 hy B2 S2 hc2 => ⟨by show 2 ≤ sizeLine; decide, fun t ht => ?_⟩⟩
      exact fin (.rd ys) H2 c2 t ⟨by rintro rfl; exact absurd y1 (by decide), by omega, hy⟩ B2 S2 (by omega) ht
    refine ⟨_, rfl, _, _, rfl, rfl, _, rfl, ite2 (fun _ => ?_) (fun _ => ?_)⟩
    · refine ⟨_, rfl, st, l, c + 1, _, rfl, S1, by omega, by decide, by decide, fun e H2 e0 e1 B2 S2 => ⟨rfl, _, rfl, ite2 (fun _ => ?_) (fun _ => ?_)⟩⟩
      · exact ⟨by show 2 ≤ sizeLine; decide, fun t ht => fin (.ls []) H2 _ t ⟨Nat.zero_le _, by simp⟩ B2 S2 (by omega) ht⟩
      · refine ⟨_, rfl, _, rfl, st, l, p, c + 1 + 1, zs, 2, rfl, S2, by omega, L1.but B2, z0, z1, nm, by decide, by decide, fun ys H3 c3 y1 y2 hy B3 S3 hc3 => ⟨by show 2 ≤ sizeLine; decide, fun t ht => ?_⟩⟩
        exact fin (.ls ys) H3 c3 t ⟨by omega, hy⟩ (B2.trans B3) S3 (by omega) ht
    refine ⟨_, rfl, rfl, _, rfl, ite2 (fun _ => ?_) (fun _ => ?_)⟩
    · refine ⟨_, rfl, _, rfl, .inl ⟨st, l, c + 1, p, _, rfl, S1, by omega, L1.h, L1.n1, L1.n2, by rw [List.length_map]; exact z0, by rw [List.length_map]; exact z1, fun i x H2 hx B2 S2 => ⟨by show 2 ≤ sizeLine; decide, fun t ht => ?_⟩⟩⟩
      obtain ⟨z, hz, rfl⟩ := List.mem_map.mp (List.mem_of_getElem? hx)
      exact fin (.se z) H2 _ t hz B2 S2 (by omega) ht
    · exact ⟨by show 1 ≤ sizeLine; decide, fun t ht => fin .tl H1 _ t trivial (fun _ _ e _ _ => e) S1 (by omega) ht⟩
end
end G

set_option maxHeartbeats 3900000
namespace G
open PySem PySem.Spec PyProof.Rows L2 TL
/-! paths as lists of names, against texts -/
theorem tl_sl : tl ("/" : Str) = [47] := by decide +kernel
def Nms (p : List Str) : Prop := ∀ y ∈ p, IsNm y
instance (p : List Str) : Decidable (Nms p) := by unfold Nms; infer_instance
abbrev jl (p : List Str) : List Nat := joinL [47] (p.map tl)
theorem tl_js (p : List Str) : tl (js p) = jl p := by
  show tl (Txt.join "/" p) = jl p
  rw [join_eq, tl_join, tl_sl]
theorem nm_free {y : Str} (h : IsNm y) : 47 ∉ tl y := fun m => by
  have := h.2.2 47 m
  omega
theorem nm_ne {y : Str} (h : IsNm y) : tl y ≠ [] := fun e => by
  have h1 := h.1
  rw [len_tl, e] at h1
  exact absurd h1 (by decide)
theorem Nms.tail {y : Str} {p : List Str} (h : Nms (y :: p)) : Nms p := fun z hz => h z (List.mem_cons_of_mem _ hz)
theorem Nms.app {p q : List Str} (hp : Nms p) (hq : Nms q) : Nms (p ++ q) := fun z hz => (List.mem_append.mp hz).elim (hp z) (hq z)
theorem Nms.left {p q : List Str} (h : Nms (p ++ q)) : Nms p := fun z hz => h z (List.mem_append_left _ hz)
theorem Nms.right {p q : List Str} (h : Nms (p ++ q)) : Nms q := fun z hz => h z (List.mem_append_right _ hz)
theorem jl_app : ∀ {q r : List Str}, q ≠ [] → r ≠ [] → jl (q ++ r) = jl q ++ 47 :: jl r
  | [], _, h, _ => absurd rfl h
  | [y], [], _, h => absurd rfl h
  | [y], z :: r, _, _ => rfl
  | y :: z :: q, r, _, hr => by
    have ih := jl_app (q := z :: q) (r := r) (by simp) hr
    show tl y ++ ([47] ++ jl (z :: q ++ r)) = (tl y ++ ([47] ++ jl (z :: q))) ++ 47 :: jl r
    rw [ih]
    simp
theorem jl_ne {p : List Str} (hp : Nms p) (h : p ≠ []) : jl p ≠ [] := by
  match p, h with
  | y :: r, _ =>
    intro e
    have hy := nm_ne (hp y List.mem_cons_self)
    cases r with
    | nil => exact hy e
    | cons z r =>
      have e2 : tl y ++ ([47] ++ jl (z :: r)) = [] := e
      exact hy (List.append_eq_nil_iff.mp e2).1
theorem split_js {p : List Str} (hp : Nms p) (h : p ≠ []) : Txt.split (js p) "/" = p :=
  split_join (s := 47) (S := []) tl_sl (by decide +kernel) h fun y hy => nm_free (hp y hy)
theorem js_nil : js [] = "" := rfl
theorem js_one (y : Str) : js [y] = y := ext_tl (by rw [tl_js]; rfl)
theorem js_ne {p : List Str} (hp : Nms p) (h : p ≠ []) : js p ≠ "" := fun e => by
  have e2 := congrArg tl e
  rw [tl_js] at e2
  exact jl_ne hp h e2
theorem js_inj {p q : List Str} (hp : Nms p) (hq : Nms q) (e : js p = js q) : p = q := by
  by_cases h1 : p = []
  · by_cases h2 : q = []
    · rw [h1, h2]
    · rw [h1] at e
      exact absurd e.symm (js_ne hq h2)
  · by_cases h2 : q = []
    · rw [h2] at e
      exact absurd e (js_ne hp h1)
    · rw [← split_js hp h1, e, split_js hq h2]
theorem js_eq {p q : List Str} (hp : Nms p) (hq : Nms q) : decide (js p = js q) = decide (p = q) := by
  by_cases h : p = q
  · rw [h]
    simp
  · rw [decide_eq_false h, decide_eq_false fun e => h (js_inj hp hq e)]
/-- strictly beneath -/
def ben (p q : List Str) : Bool := q.isPrefixOf p && decide (q.length < p.length)
theorem ben_iff {p q : List Str} : ben p q = true ↔ ∃ r, r ≠ [] ∧ p = q ++ r := by
  unfold ben
  rw [Bool.and_eq_true, List.isPrefixOf_iff_prefix, decide_eq_true_iff]
  constructor
  · rintro ⟨⟨r, rfl⟩, h⟩
    refine ⟨r, ?_, rfl⟩
    rintro rfl
    simp at h
  · rintro ⟨r, hr, rfl⟩
    refine ⟨⟨r, rfl⟩, ?_⟩
    have := List.length_pos_iff.mpr hr
    rw [List.length_append]
    omega
theorem spl_ne (S : List Nat) : ∀ (k : Nat) (acc l : List Nat), spl S k acc l ≠ []
  | k, acc, [] => by
    rw [spl_nil]
    simp
  | 0, acc, c :: r => by
    unfold spl
    by_cases h : pre S (c :: r) = true
    · rw [if_pos h]
      simp
    · rw [if_neg h]
      exact spl_ne S 0 _ r
  | k + 1, acc, _ :: r => spl_ne S k acc r
theorem spl_pre : ∀ {q : List Str} {t : List Nat}, q ≠ [] → Nms q → spl [47] 0 [] (jl q ++ 47 :: t) = q.map tl ++ spl [47] 0 [] t
  | [], _, h, _ => absurd rfl h
  | [y], t, _, hq => by
    have e := spl_part1 (s := 47) (S := []) (acc := []) (p := tl y) (rest := t) (nm_free (hq y List.mem_cons_self))
    exact e
  | y :: z :: r, t, _, hq => by
    have e := spl_part1 (s := 47) (S := []) (acc := []) (p := tl y) (rest := jl (z :: r) ++ 47 :: t) (nm_free (hq y List.mem_cons_self))
    have ih := spl_pre (q := z :: r) (t := t) (by simp) hq.tail
    have e2 : jl (y :: z :: r) ++ 47 :: t = tl y ++ ([47] ++ (jl (z :: r) ++ 47 :: t)) := by
      show tl y ++ ([47] ++ jl (z :: r)) ++ 47 :: t = _
      simp
    rw [e2]
    refine e.trans ?_
    rw [ih]
    rfl
theorem spl_js {p : List Str} (hp : Nms p) (h : p ≠ []) : spl [47] 0 [] (jl p) = p.map tl :=
  spl_join (s := 47) (S := []) (by simpa using h) fun z hz => by
    obtain ⟨y, hy, rfl⟩ := List.mem_map.mp hz
    exact nm_free (hp y hy)
theorem under {p q : List Str} (hp : Nms p) (hq : Nms q) (h : q ≠ []) : (jl q ++ [47]) <+: jl p ↔ ben p q = true := by
  rw [ben_iff]
  constructor
  · rintro ⟨t, e⟩
    have e1 : jl p = jl q ++ 47 :: t := by
      rw [← e]
      simp
    have hp0 : p ≠ [] := by
      rintro rfl
      have : ([] : List Nat) = jl q ++ 47 :: t := e1
      simp at this
    have e2 := spl_js hp hp0
    rw [e1, spl_pre h hq] at e2
    have e3 : (p.take q.length).map tl = q.map tl := by
      rw [List.map_take, ← e2]
      rw [show q.length = (q.map tl).length by rw [List.length_map], List.take_left']
      rfl
    have e4 := map_tl_inj e3
    refine ⟨p.drop q.length, ?_, ?_⟩
    · intro z
      have z2 : p.length ≤ q.length := List.drop_eq_nil_iff.mp z
      have z3 := congrArg List.length e2
      rw [List.length_append, List.length_map, List.length_map] at z3
      have z4 := List.length_pos_iff.mpr (spl_ne [47] 0 [] t)
      omega
    · conv => lhs; rw [← List.take_append_drop q.length p]
      rw [e4]
  · rintro ⟨r, hr, rfl⟩
    rw [jl_app h hr]
    exact ⟨jl r, by simp⟩
theorem sw_pre (x y : Str) : Txt.startswith x y = (tl y).isPrefixOf (tl x) := by
  show (decide (0 + y.length ≤ x.length) && Builtin.Str.subAt x y 0) = _
  rw [PySem.StrLaws.subAt_eq]
  apply Bool.eq_iff_iff.mpr
  rw [Bool.and_eq_true, List.isPrefixOf_iff_prefix, decide_eq_true_iff, List.drop_zero, beq_iff_eq, List.prefix_iff_eq_take]
  constructor
  · rintro ⟨_, h⟩
    rw [len_tl] at h
    exact h.symm
  · intro h
    refine ⟨?_, by rw [len_tl]; exact h.symm⟩
    have := congrArg List.length h
    rw [List.length_take] at this
    rw [len_tl, len_tl]
    omega
theorem sw_js {p q : List Str} (hp : Nms p) (hq : Nms q) (h : q ≠ []) : Txt.startswith (js p) (js q ++ "/") = ben p q := by
  rw [sw_pre, tl_append, tl_js, tl_js, tl_sl]
  apply Bool.eq_iff_iff.mpr
  rw [List.isPrefixOf_iff_prefix]
  exact under hp hq h
/-! slices -/
theorem tl_cutS (z : Str) (lo hi : Option Int) : tl (cutS z lo hi) = ((tl z).drop (HT.sIx z.length 0 lo)).take (HT.sIx z.length z.length hi - HT.sIx z.length 0 lo) := rfl
end G

set_option maxHeartbeats 3900000
namespace G
open PySem PySem.Spec PyProof.Rows L2 TL
theorem cut_from (z : Str) (n : Nat) : tl (cutS z (some (n : Int)) none) = (tl z).drop n := by
  rw [tl_cutS, HT.sIx_nat, HT.sIx_none, len_tl]
  rw [List.take_of_length_le (by rw [List.length_drop]; exact Nat.le_refl _)]
  by_cases h : n ≤ (tl z).length
  · rw [Nat.min_eq_left h]
  · rw [Nat.min_eq_right (by omega), List.drop_eq_nil_of_le (Nat.le_refl _), List.drop_eq_nil_of_le (by omega)]
theorem cut_to (z : Str) (n : Nat) : tl (cutS z none (some (n : Int))) = (tl z).take n := by
  rw [tl_cutS, HT.sIx_nat, HT.sIx_none, List.drop_zero, Nat.sub_zero, len_tl]
  by_cases h : n ≤ (tl z).length
  · rw [Nat.min_eq_left h]
  · rw [Nat.min_eq_right (by omega), List.take_of_length_le (Nat.le_refl _), List.take_of_length_le (by omega)]
theorem cut_last (z : Str) : tl (cutS z (some (-1)) none) = (tl z).drop ((tl z).length - 1) := by
  rw [tl_cutS, HT.sIx_none, len_tl]
  have e : HT.sIx (tl z).length 0 (some (-1)) = (tl z).length - 1 := by
    show (if (-1 : Int) < 0 then ((-1 : Int) + ((tl z).length : Int)).toNat else min (-1 : Int).toNat (tl z).length) = _
    rw [if_pos (by decide)]
    omega
  rw [e]
  rw [List.take_of_length_le (by rw [List.length_drop]; exact Nat.le_refl _)]
/-- what all beneath begins with -/
def bg (p : List Str) : Str := if p = [] then "" else js p ++ "/"
theorem bg_str (p : List Str) (hp : Nms p) : (if decide (js p = "") = true then ("" : Str) else js p ++ "/") = bg p := by
  unfold bg
  by_cases h : p = []
  · rw [if_pos h, h]
    rfl
  · rw [if_neg h, decide_eq_false (js_ne hp h)]
    rfl
theorem sw_bg {p q : List Str} (hp : Nms p) (hq : Nms q) : (decide (p ≠ q) && Txt.startswith (js p) (bg q)) = ben p q := by
  unfold bg
  by_cases h : q = []
  · rw [if_pos h, h, sw_pre]
    have e : tl ("" : Str) = [] := rfl
    rw [e]
    unfold ben
    cases p with
    | nil => rfl
    | cons y r => simp
  · rw [if_neg h, sw_js hp hq h]
    by_cases e : p = q
    · rw [e]
      simp [ben]
    · rw [decide_eq_true e, Bool.true_and]
theorem jl_drop {q r : List Str} (hq : q ≠ []) (hr : r ≠ []) : (jl (q ++ r)).drop ((jl q).length + 1) = jl r := by
  rw [jl_app hq hr]
  rw [show jl q ++ 47 :: jl r = (jl q ++ [47]) ++ jl r by simp]
  rw [show (jl q).length + 1 = (jl q ++ [47]).length by simp, List.drop_left']
  rfl
theorem bg_len (q : List Str) : (bg q).length = if q = [] then 0 else (jl q).length + 1 := by
  unfold bg
  by_cases h : q = []
  · rw [if_pos h, if_pos h]
    rfl
  · rw [if_neg h, if_neg h, len_tl, tl_append, tl_js, tl_sl]
    simp
theorem rest_bg (q : List Str) {r : List Str} (hr : r ≠ []) : cutS (js (q ++ r)) (some ((bg q).length : Int)) none = js r := by
  refine ext_tl ?_
  rw [cut_from, tl_js, tl_js, bg_len]
  by_cases h : q = []
  · rw [if_pos h, h]
    rfl
  · rw [if_neg h, jl_drop h hr]
theorem head_bg {p q : List Str} (hp : Nms p) (hq : Nms q) (h : q ≠ []) : decide (cutS (js p) none (some (((js q).length + 1 : Nat) : Int)) = js q ++ "/") = ben p q := by
  have e9 : (jl q ++ [47]).length = (jl q).length + 1 := by simp
  have e : (cutS (js p) none (some (((js q).length + 1 : Nat) : Int)) = js q ++ "/") ↔ (jl q ++ [47]) <+: jl p := by
    rw [List.prefix_iff_eq_take]
    constructor
    · intro z
      have z2 := congrArg tl z
      rw [cut_to, tl_append, tl_js, tl_js, tl_sl, len_tl, tl_js] at z2
      rw [e9]
      exact z2.symm
    · intro z
      refine ext_tl ?_
      rw [cut_to, tl_append, tl_js, tl_js, tl_sl, len_tl, tl_js]
      rw [e9] at z
      exact z.symm
  rw [decide_eq_decide.mpr e]
  apply Bool.eq_iff_iff.mpr
  rw [decide_eq_true_iff]
  exact under hp hq h
theorem js_cons (y : Str) {r : List Str} (h : r ≠ []) : js (y :: r) = y ++ "/" ++ js r := by
  refine ext_tl ?_
  rw [tl_js, tl_append, tl_append, tl_js, tl_sl]
  show jl ([y] ++ r) = _
  rw [jl_app (by simp) h]
  show tl y ++ 47 :: jl r = _
  simp
theorem js_app {q r : List Str} (hq : q ≠ []) (hr : r ≠ []) : js (q ++ r) = js q ++ "/" ++ js r := by
  refine ext_tl ?_
  rw [tl_js, tl_append, tl_append, tl_js, tl_js, tl_sl, jl_app hq hr]
  simp
theorem bg_app (q : List Str) {r : List Str} (hr : r ≠ []) : bg q ++ js r = js (q ++ r) := by
  unfold bg
  by_cases h : q = []
  · rw [if_pos h, h]
    exact ext_tl (by rw [tl_append]; rfl)
  · rw [if_neg h, js_app h hr]
theorem part_js {y : Str} {r : List Str} (hy : IsNm y) : Txt.partition (js (y :: r)) "/" = if r = [] then (y, ("" : Str), ("" : Str)) else (y, ("/" : Str), js r) := by
  by_cases h : r = []
  · rw [if_pos h, h, js_one]
    exact partition_none tl_sl (nm_free hy)
  · rw [if_neg h, js_cons y h]
    exact partition_app tl_sl (nm_free hy)
/-! entries -/
def ent (n : Str) (b : Bool) : Str := if b = true then n ++ "/" else n
theorem tl_ent (n : Str) (b : Bool) : tl (ent n b) = tl n ++ if b = true then [47] else [] := by
  unfold ent
  cases b
  · simp
  · rw [if_pos rfl, tl_append, tl_sl, if_pos rfl]
theorem ent_inj {n m : Str} {b c : Bool} (hn : IsNm n) (hm : IsNm m) (e : ent n b = ent m c) : n = m ∧ b = c := by
  have h := congrArg tl e
  rw [tl_ent, tl_ent] at h
  cases b <;> cases c
  · simp only [Bool.false_eq_true, if_false, List.append_nil] at h
    exact ⟨ext_tl h, rfl⟩
  · simp only [Bool.false_eq_true, if_false, List.append_nil, if_true] at h
    exact absurd (by rw [h]; simp) (nm_free hn)
  · simp only [Bool.false_eq_true, if_false, List.append_nil, if_true] at h
    exact absurd (by rw [← h]; simp) (nm_free hm)
  · simp only [if_true] at h
    exact ⟨ext_tl (List.append_cancel_right h), rfl⟩
theorem ent_eq {n m : Str} {b c : Bool} (hn : IsNm n) (hm : IsNm m) : decide (ent n b = ent m c) = decide ((n, b) = (m, c)) := by
  by_cases e : ent n b = ent m c
  · obtain ⟨e1, e2⟩ := ent_inj hn hm e
    subst e1
    subst e2
    simp
  · rw [decide_eq_false e, decide_eq_false]
    intro z
    cases z
    exact e rfl
theorem ew (x y : Str) : Txt.endswith x y = (decide ((tl y).length ≤ (tl x).length) && decide ((tl x).drop ((tl x).length - (tl y).length) = tl y)) := by
  show (decide (0 + y.length ≤ x.length) && Builtin.Str.subAt x y (x.length - y.length)) = _
  rw [PySem.StrLaws.subAt_eq, len_tl, len_tl, Nat.zero_add]
  by_cases h : (tl y).length ≤ (tl x).length
  · rw [decide_eq_true h, Bool.true_and, Bool.true_and]
    have e : (((tl x).drop ((tl x).length - (tl y).length)).take (tl y).length) = (tl x).drop ((tl x).length - (tl y).length) := List.take_of_length_le (by rw [List.length_drop]; omega)
    have e5 : (((tl x).drop ((tl x).length - (tl y).length)).take (tl y).length == tl y) = ((tl x).drop ((tl x).length - (tl y).length) == tl y) := by rw [e]
    refine e5.trans ?_
    apply Bool.eq_iff_iff.mpr
    rw [beq_iff_eq, decide_eq_true_iff]
  · rw [decide_eq_false h]
    rfl
theorem last_drop (u : List Nat) (c : Nat) : (u ++ [c]).drop ((u ++ [c]).length - 1) = [c] := by
  rw [show (u ++ [c]).length - 1 = u.length by simp, List.drop_left']
  rfl
theorem last_free {u : List Nat} (h : 47 ∉ u) : u.drop (u.length - 1) ≠ [47] := fun e => h (by
  have : 47 ∈ u.drop (u.length - 1) := by
    rw [e]
    simp
  exact List.mem_of_mem_drop this)
theorem ew_ent {n : Str} (hn : IsNm n) (b : Bool) : Txt.endswith (ent n b) "/" = b := by
  rw [ew, tl_sl, tl_ent]
  cases b
  · simp only [Bool.false_eq_true, if_false, List.append_nil]
    rw [decide_eq_false (p := (tl n).drop ((tl n).length - [47].length) = [47]) (last_free (nm_free hn)), Bool.and_false]
  · simp only [if_true]
    rw [decide_eq_true (by simp), Bool.true_and]
    exact decide_eq_true (last_drop _ _)
theorem cut_ent {n : Str} (hn : IsNm n) (b : Bool) : decide (cutS (ent n b) (some (-1)) none = "/") = b := by
  cases b
  · refine decide_eq_false fun e => ?_
    have e2 := congrArg tl e
    rw [cut_last, tl_ent, tl_sl] at e2
    simp only [Bool.false_eq_true, if_false, List.append_nil] at e2
    exact last_free (nm_free hn) e2
  · refine decide_eq_true (ext_tl ?_)
    rw [cut_last, tl_ent, tl_sl]
    simp only [if_true]
    exact last_drop _ _
theorem tl_sub (x : Str) (i j : Nat) : tl (Builtin.Str.strSub x i j) = ((tl x).drop i).take (j - i) := tl_strSub x i j
theorem rms {x y : Str} (h : Txt.endswith x y = true) : tl (Txt.removesuffix x y) = (tl x).take ((tl x).length - (tl y).length) := by
  have h2 : (decide (y.length ≤ x.length) && Builtin.Str.subAt x y (x.length - y.length)) = true := by
    rw [← h]
    show _ = (decide (0 + y.length ≤ x.length) && Builtin.Str.subAt x y (x.length - y.length))
    rw [Nat.zero_add]
  show tl (Txt.affix x (if (decide (y.length ≤ x.length) && Builtin.Str.subAt x y (x.length - y.length)) = true then some (0, x.length - y.length) else none)) = _
  rw [if_pos h2]
  show tl (if x.length - y.length - 0 == x.length then x else Builtin.Str.strSub x 0 (x.length - y.length)) = _
  rw [len_tl, len_tl]
  by_cases e : ((tl x).length - (tl y).length - 0 == (tl x).length) = true
  · rw [if_pos e]
    rw [beq_iff_eq] at e
    rw [List.take_of_length_le (by omega)]
  · rw [if_neg e, tl_sub, List.drop_zero]
    rfl
theorem rms_no {x y : Str} (h : Txt.endswith x y = false) : Txt.removesuffix x y = x := by
  have h2 : (decide (y.length ≤ x.length) && Builtin.Str.subAt x y (x.length - y.length)) = false := by
    rw [← h]
    show _ = (decide (0 + y.length ≤ x.length) && Builtin.Str.subAt x y (x.length - y.length))
    rw [Nat.zero_add]
  show Txt.affix x (if (decide (y.length ≤ x.length) && Builtin.Str.subAt x y (x.length - y.length)) = true then some (0, x.length - y.length) else none) = _
  rw [if_neg (by rw [h2]; simp)]
  rfl
theorem rms_ent {n : Str} (hn : IsNm n) (b : Bool) : Txt.removesuffix (ent n b) "/" = n := by
  cases b
  · exact rms_no (ew_ent hn false)
  · refine ext_tl ?_
    rw [rms (ew_ent hn true), tl_ent, tl_sl]
    simp
/-! strip -/
theorem tw_free {u r : List Nat} (h0 : u.head? ≠ some 47) (h : u ≠ []) : (u ++ r).takeWhile (fun c => c == 47) = [] := by
  match u, h with
  | c :: u, _ =>
    rw [List.cons_append, List.takeWhile_cons_of_neg]
    intro z
    exact h0 (by rw [List.head?_cons, beq_iff_eq.mp z])
theorem tw_rep (k : Nat) (r : List Nat) (h : r.head? ≠ some 47) : (List.replicate k 47 ++ r).takeWhile (fun c => c == 47) = List.replicate k 47 := by
  induction k with
  | zero =>
    rw [List.replicate_zero, List.nil_append]
    by_cases e : r = []
    · rw [e]
      rfl
    · have := tw_free (r := []) h e
      rw [List.append_nil] at this
      exact this
  | succ k ih => rw [List.replicate_succ, List.cons_append, List.takeWhile_cons_of_pos rfl, ih]
theorem strip_core {x : Str} {u : List Nat} {k : Nat} (h0 : u.head? ≠ some 47) (h1 : u.getLast? ≠ some 47) (hx : tl x = u ++ List.replicate k 47) : tl (Txt.stripChars x "/") = u := by
  have g : (("/" : Str).cps.contains : Nat → Bool) = fun c => c == 47 := by
    funext c
    have e : ("/" : Str).cps = #[47] := by decide +kernel
    rw [e]
    apply Bool.eq_iff_iff.mpr
    rw [Array.contains_iff_mem, beq_iff_eq]
    simp
  show tl (Txt.stripBy ("/" : Str).cps.contains true true x) = u
  rw [stripBy_eq, tl_sub, g]
  show ((tl x).drop ((tl x).takeWhile fun c => c == 47).length).take ((x.length - (((tl x).drop ((tl x).takeWhile fun c => c == 47).length).reverse.takeWhile fun c => c == 47).length) - ((tl x).takeWhile fun c => c == 47).length) = u
  rw [len_tl, hx]
  by_cases e : u = []
  · rw [e, List.nil_append]
    have t := tw_rep k [] (by simp)
    rw [List.append_nil] at t
    rw [t, List.length_replicate, List.drop_eq_nil_of_le (by rw [List.length_replicate]; exact Nat.le_refl _)]
    exact List.take_nil
  · rw [tw_free h0 e]
    show ((u ++ List.replicate k 47).drop 0).take (((u ++ List.replicate k 47).length - (((u ++ List.replicate k 47).drop 0).reverse.takeWhile fun c => c == 47).length) - 0) = u
    rw [List.drop_zero, List.reverse_append, List.reverse_replicate, tw_rep k u.reverse (by rw [List.head?_reverse]; exact h1), List.length_replicate, List.length_append, List.length_replicate, Nat.add_sub_cancel, Nat.sub_zero, List.take_left']
    rfl
theorem jl_head : ∀ {p : List Str}, Nms p → (jl p).head? ≠ some 47
  | [], _ => by intro q; cases q
  | y :: r, h => by
    have hy := h y List.mem_cons_self
    have e : ∃ t, jl (y :: r) = tl y ++ t := by
      cases r with
      | nil => exact ⟨[], (List.append_nil _).symm⟩
      | cons z r => exact ⟨_, rfl⟩
    obtain ⟨t, e⟩ := e
    rw [e]
    intro q
    match h2 : tl y with
    | [] => exact nm_ne hy h2
    | c :: u =>
      rw [h2, List.cons_append, List.head?_cons] at q
      refine nm_free hy ?_
      rw [h2, Option.some.inj q]
      exact List.mem_cons_self
theorem jl_last : ∀ {p : List Str}, Nms p → (jl p).getLast? ≠ some 47
  | [], _ => by intro q; cases q
  | [y], h => fun q => nm_free (h y List.mem_cons_self) (List.mem_of_getLast? q)
  | y :: z :: r, h => by
    have ih := jl_last (p := z :: r) h.tail
    show (tl y ++ ([47] ++ jl (z :: r))).getLast? ≠ some 47
    rw [List.getLast?_append, List.getLast?_append]
    intro q
    match e : (jl (z :: r)).getLast? with
    | none => exact jl_ne h.tail (by simp) (List.getLast?_eq_none_iff.mp e)
    | some c =>
      rw [e] at q
      exact ih (by rw [e]; exact q)
theorem strip_ent {n : Str} (hn : IsNm n) (b : Bool) : Txt.stripChars (ent n b) "/" = n := by
  refine ext_tl (strip_core (k := if b = true then 1 else 0) ?_ ?_ ?_)
  · have := jl_head (p := [n]) (by simpa [Nms] using hn)
    exact this
  · have := jl_last (p := [n]) (by simpa [Nms] using hn)
    exact this
  · rw [tl_ent]
    cases b <;> rfl
/-- a front: a path with a stroke behind it, or nothing -/
theorem strip_front {q p : List Str} (hq : Nms q) (hp : Nms p) : Txt.stripChars (bg q ++ js p) "/" = js (q ++ p) := by
  by_cases h : p = []
  · subst h
    rw [List.append_nil]
    refine ext_tl ?_
    rw [tl_js]
    refine strip_core (k := if q = [] then 0 else 1) (jl_head hq) (jl_last hq) ?_
    unfold bg
    by_cases e : q = []
    · rw [if_pos e, if_pos e, e]
      rfl
    · rw [if_neg e, if_neg e, tl_append, tl_append, tl_js, tl_sl]
      show jl q ++ [47] ++ [] = jl q ++ [47]
      rw [List.append_nil]
  · rw [bg_app q h]
    refine ext_tl ?_
    rw [tl_js]
    refine strip_core (k := 0) (jl_head (hq.app hp)) (jl_last (hq.app hp)) ?_
    rw [tl_js]
    simp
end G

set_option maxHeartbeats 3900000
namespace CB
open PySem PySem.Spec PyProof.Rows L2
/-! comprehensions whose turns add to the heap alone: one rule for all walks -/
theorem same_mk {H : Hp} {p : Addr} {o : HO} (h : H p = none) : Same H (upd H p o) := fun a u e => by
  rw [upd_ne (ne_of_none e h)]
  exact e
theorem same_ch {H H' : Hp} {p : Addr} {o : HO} (a : Same H H') (h : H p = none) : Same H (upd H' p o) := fun c u e => by
  rw [upd_ne (ne_of_none e h)]
  exact a c u e
section
variable {J : It} {n : Nat} {G : Hp → Prop} {Y : Nat → Hp → V → Hp → Prop} {j : Nat} {te : TE} {σ : L2.St} {H1 : Hp} {D : Addr} {Qd : Hp → Prop}
theorem wipe1 (x : V) : wipe ((wipe σ [j]).set j (some x)) [j] = wipe σ [j] := by
  show ((σ.set j none).set j (some x)).set j none = σ.set j none
  simp
theorem lcW (w : Walk J n G Y) (ys : List V) (hn : ys.length = n) (hs : n < 1000000) (hD : H1 D = none) (hG : ∀ H', Same H1 H' → G H')
    (turn : ∀ (i : Nat) (x y : V) (H2 H3 : Hp), ys[i]? = some y → Same H1 H2 → Y i H2 x H3 → ∀ Q1 : VK, (∀ H4, Same H2 H4 → Q1 y H4) → te ((wipe σ [j]).set j (some x)) H3 Q1)
    (hd : ∀ H', Same H1 H' → H' D = some (.lst ys) → Qd H') :
    ∃ W : Nat → Nat → Hp → Prop, (∃ m, W 0 m (upd H1 D (.lst []))) ∧ ∀ i m H, W i m H →
      (J.stop i H ∧ Qd H) ∨ (J.go i H ∧ ∃ Nx : Hp → Prop, (∀ H', Nx H' → ∃ m', m' < m ∧ W (i + 1) m' H') ∧ ∀ x H', J.yld i H x H' → gName j x (wipe σ [j]) H' fun σ2 H2 => wipe σ2 [j] = wipe σ [j] ∧ tYes σ2 H2 fun b H3 =>
        if b = true then te σ2 H3 fun y H4 => ∃ acc, H4 D = some (.lst acc) ∧ acc.length < sizeLine ∧ Nx (upd H4 D (.lst (acc ++ [y]))) else Nx H3) := by
  subst hn
  refine lc_it w (fun i H' => Same H1 H' ∧ H' D = some (.lst (ys.take i))) ⟨same_mk hD, upd_same⟩ (fun i H' _ q => hG H' q.1) ?_ ?_
  · rintro i x H2 H3 hi ⟨s2, hd2⟩ y
    have hy : ys[i]? = some ys[i] := List.getElem?_eq_getElem hi
    refine ⟨wipe1 x, ?_⟩
    refine turn i x ys[i] H2 H3 hy s2 y _ fun H4 s4 => ⟨_, s4 _ _ hd2, ?_, same_ch (s2.trans s4) hD, ?_⟩
    · rw [List.length_take]
      exact Nat.lt_of_lt_of_le (show min i ys.length < 1000000 by omega) (by decide)
    · rw [upd_same, List.take_succ, hy]
      rfl
  · rintro H' ⟨s, h⟩
    rw [List.take_length] at h
    exact hd H' s h
end
section
variable {K : PySem.W.Frag} {α : Type} {j : Nat} {te : TE} {σ : L2.St} {H1 : Hp} {D a : Addr} {Qd : Hp → Prop}
theorem map_two {α : Type} {zs : List α} {u g : α → V} {i : Nat} {x y : V} (hx : (zs.map u)[i]? = some x) (hy : (zs.map g)[i]? = some y) : ∃ z ∈ zs, x = u z ∧ y = g z := by
  rw [List.getElem?_map] at hx hy
  match e : zs[i]? with
  | none =>
    rw [e] at hx
    cases hx
  | some z =>
    rw [e] at hx hy
    cases hx
    cases hy
    exact ⟨z, List.mem_of_getElem? e, rfl, rfl⟩
theorem lc_mapL (zs : List α) (u g : α → V) (hs : zs.length < 1000000) (hD : H1 D = none) (ha : SqL K H1 a (zs.map u))
    (turn : ∀ z ∈ zs, ∀ H2, Same H1 H2 → ∀ Q1 : VK, (∀ H4, Same H2 H4 → Q1 (g z) H4) → te ((wipe σ [j]).set j (some (u z))) H2 Q1) (hd : ∀ H', Same H1 H' → H' D = some (.lst (zs.map g)) → Qd H') :
    ∃ W : Nat → Nat → Hp → Prop, (∃ m, W 0 m (upd H1 D (.lst []))) ∧ ∀ i m H, W i m H →
      ((Itl K a).stop i H ∧ Qd H) ∨ ((Itl K a).go i H ∧ ∃ Nx : Hp → Prop, (∀ H', Nx H' → ∃ m', m' < m ∧ W (i + 1) m' H') ∧ ∀ x H', (Itl K a).yld i H x H' → gName j x (wipe σ [j]) H' fun σ2 H2 => wipe σ2 [j] = wipe σ [j] ∧ tYes σ2 H2 fun b H3 =>
        if b = true then te σ2 H3 fun y H4 => ∃ acc, H4 D = some (.lst acc) ∧ acc.length < sizeLine ∧ Nx (upd H4 D (.lst (acc ++ [y]))) else Nx H3) := by
  refine lcW (walk_list (K := K) (a := a) (xs := zs.map u)) (zs.map g) (by rw [List.length_map, List.length_map]) (by rw [List.length_map]; exact hs) hD (fun H' s => s.seq ha) ?_ hd
  rintro i x y H2 H3 hy s ⟨rfl, hx⟩ Q1 k
  obtain ⟨z, hz, rfl, rfl⟩ := map_two hx hy
  exact turn z hz _ s Q1 k
theorem sameT {H H' : Hp} {xs : List V} (e : Same H H') (h : SqT K H a xs) : SqT K H' a xs := by
  rcases h with (h | ⟨o, h⟩) | h
  · exact .inl (.inl (e _ _ h))
  · exact .inl (.inr ⟨o, e _ _ h⟩)
  · exact .inr h
theorem lc_mapT (zs : List α) (u g : α → V) (hs : zs.length < 1000000) (hD : H1 D = none) (ha : SqT K H1 a (zs.map u))
    (turn : ∀ z ∈ zs, ∀ H2, Same H1 H2 → ∀ Q1 : VK, (∀ H4, Same H2 H4 → Q1 (g z) H4) → te ((wipe σ [j]).set j (some (u z))) H2 Q1) (hd : ∀ H', Same H1 H' → H' D = some (.lst (zs.map g)) → Qd H') :
    ∃ W : Nat → Nat → Hp → Prop, (∃ m, W 0 m (upd H1 D (.lst []))) ∧ ∀ i m H, W i m H →
      ((Itt K a).stop i H ∧ Qd H) ∨ ((Itt K a).go i H ∧ ∃ Nx : Hp → Prop, (∀ H', Nx H' → ∃ m', m' < m ∧ W (i + 1) m' H') ∧ ∀ x H', (Itt K a).yld i H x H' → gName j x (wipe σ [j]) H' fun σ2 H2 => wipe σ2 [j] = wipe σ [j] ∧ tYes σ2 H2 fun b H3 =>
        if b = true then te σ2 H3 fun y H4 => ∃ acc, H4 D = some (.lst acc) ∧ acc.length < sizeLine ∧ Nx (upd H4 D (.lst (acc ++ [y]))) else Nx H3) := by
  refine lcW (walk_tup (K := K) (a := a) (xs := zs.map u)) (zs.map g) (by rw [List.length_map, List.length_map]) (by rw [List.length_map]; exact hs) hD (fun H' s => sameT s ha) ?_ hd
  rintro i x y H2 H3 hy s ⟨rfl, hx⟩ Q1 k
  obtain ⟨z, hz, rfl, rfl⟩ := map_two hx hy
  exact turn z hz _ s Q1 k
theorem lc_mapS (z : Str) (g : Nat → V) (hs : z.length < 1000000) (hD : H1 D = none)
    (turn : ∀ c ∈ z.cps.toList, ∀ H2, Same H1 H2 → ∀ Q1 : VK, (∀ H4, Same H2 H4 → Q1 (g c) H4) → te ((wipe σ [j]).set j (some (.str ⟨#[c]⟩))) H2 Q1) (hd : ∀ H', Same H1 H' → H' D = some (.lst (z.cps.toList.map g)) → Qd H') :
    ∃ W : Nat → Nat → Hp → Prop, (∃ m, W 0 m (upd H1 D (.lst []))) ∧ ∀ i m H, W i m H →
      ((Its z).stop i H ∧ Qd H) ∨ ((Its z).go i H ∧ ∃ Nx : Hp → Prop, (∀ H', Nx H' → ∃ m', m' < m ∧ W (i + 1) m' H') ∧ ∀ x H', (Its z).yld i H x H' → gName j x (wipe σ [j]) H' fun σ2 H2 => wipe σ2 [j] = wipe σ [j] ∧ tYes σ2 H2 fun b H3 =>
        if b = true then te σ2 H3 fun y H4 => ∃ acc, H4 D = some (.lst acc) ∧ acc.length < sizeLine ∧ Nx (upd H4 D (.lst (acc ++ [y]))) else Nx H3) := by
  refine lcW (walk_str (z := z)) (z.cps.toList.map g) (by rw [List.length_map, Array.length_toList]) hs hD (fun _ _ => trivial) ?_ hd
  rintro i x y H2 H3 hy s ⟨rfl, c, hc, rfl⟩ Q1 k
  rw [List.getElem?_map, Array.getElem?_toList, hc] at hy
  cases hy
  exact turn c (by rw [Array.mem_toList_iff]; exact Array.mem_of_getElem? hc) _ s Q1 k
/-- all and any over such a list -/
theorem all_of {H : Hp} {Q : VK} (zs : List α) (f : α → Bool) (h : H D = some (.lst (zs.map fun z => .bl (f z)))) (q : Q (.bl (zs.all f)) H) : rAll K [.ref D] H Q :=
  ⟨D, zs.map f, rfl, SqL.of (by rw [h, List.map_map]; rfl), by rw [List.all_map]; exact q⟩
theorem any_of {H : Hp} {Q : VK} (zs : List α) (f : α → Bool) (h : H D = some (.lst (zs.map fun z => .bl (f z)))) (q : Q (.bl (zs.any f)) H) : rAny K [.ref D] H Q :=
  ⟨D, zs.map f, rfl, SqL.of (by rw [h, List.map_map]; rfl), by rw [List.any_map]; exact q⟩
end
/-! methods of built-in types beneath a comprehension's binder: the written part given by hand -/
section
variable {X : Cx} {o e : Expr} {es : List Expr} {to : TE} {t : TA} {name : Str} {apos cpos : Pos} {T id : String} {r : V → List V → Hp → VK → Prop}
theorem pe_bmK (K0 : PySem.W.Frag) (hK : X.K = K0) (pa : PlainAttrs T) (slot : Slot T name id) (hty : typeOf (.builtin id) = pure (.type "method_descriptor")) (hm : MtR X id r) (ho : PE X o to) (ha : PA X (e :: es) t)
    (hb : attributeBase o name X.env (eval o X.env) = eval o X.env := by rfl)
    (hf : ((backTo cpos (starEach (e :: es) X.env)).all (fun x => !x.1) && (backToKw cpos (keywordEach [] X.env)).all (fun x => x.1.isSome) && decide ((e :: es).length + ([] : List Keyword).length + (if ([] : List Keyword).isEmpty then 0 else 1) < 30)) = true := by rfl)
    (hl : (apos.endLine == cpos.line) = true := by rfl) (hs : starEach (e :: es) X.env = (false, eval e X.env) :: starEach es X.env := by rfl) (hp : (backTo cpos (starEach es X.env)).any (·.1) = false := by rfl) :
    PE X (.Call (.Attribute o name apos) (e :: es) [] cpos) (tBM K0 T r to t) := by
  subst hK
  exact pe_bm pa slot hty hm ho ha hb hf hl hs hp
theorem pe_bm0K (K0 : PySem.W.Frag) (hK : X.K = K0) (pa : PlainAttrs T) (slot : Slot T name id) (hty : typeOf (.builtin id) = pure (.type "method_descriptor")) (hm : MtR X id r) (ho : PE X o to)
    (hb : attributeBase o name X.env (eval o X.env) = eval o X.env := by rfl) (hl : (apos.endLine == cpos.line) = true := by rfl) : PE X (.Call (.Attribute o name apos) [] [] cpos) (tBM0 K0 T r to) := by
  subst hK
  exact pe_bm0 pa slot hty hm ho hb hl
end
section
variable {X : Cx} {K0 : PySem.W.Frag}
theorem pg_tupK {es : List Expr} {k : Nat} {t : TGs} {n : Nat} {pos : Pos} (hK : X.K = K0) (hc : X.calm = true) (h : PGs X es t) (hn : (assignEach es X.env).length = n := by rfl) (hs : (assignEach es X.env).findIdx? (·.1) = none := by rfl) : PG X (.Tuple es k pos) (gTup K0 n t) := by
  subst hK
  exact pg_tup hc h hn hs
theorem ix_listK (hK : X.K = K0) : IxR X (rIxL K0) := by
  subst hK
  exact ix_list
theorem ix_tupK (hK : X.K = K0) : IxR X (rIxT K0) := by
  subst hK
  exact ix_tup
theorem in_seqK (hK : X.K = K0) : OpR X (compareOp .In) (rIn K0 false) := by
  subst hK
  exact op_in_seq
theorem notIn_seqK (hK : X.K = K0) : OpR X (compareOp .NotIn) (rIn K0 true) := by
  subst hK
  exact op_notIn_seq
theorem eqDK (hK : X.K = K0) (hu : X.A.units + 64 < cLine) : OpR X (compareOp .Eq) (rEqD K0) := by
  subst hK
  exact op_eqD hu
theorem neDK (hK : X.K = K0) (hu : X.A.units + 64 < cLine) : OpR X (compareOp .NotEq) (rNeD K0) := by
  subst hK
  exact op_neD hu
end
/-! a row: a tuple or a list -/
def RowAt (H : Hp) (v : V) (xs : List V) : Prop := ∃ a, v = .ref a ∧ (H a = some (.tup xs) ∨ H a = some (.lst xs))
theorem RowAt.up {H H' : Hp} {v : V} {xs : List V} (h : RowAt H v xs) (s : Same H H') : RowAt H' v xs := by
  obtain ⟨a, e, h | h⟩ := h
  · exact ⟨a, e, .inl (s _ _ h)⟩
  · exact ⟨a, e, .inr (s _ _ h)⟩
def rIxRow : R2 := fun x y H Q => ∃ xs i v, RowAt H x xs ∧ y = .int i ∧ atI xs i = some v ∧ Q v H
def rLenRow : List V → Hp → VK → Prop := fun vs H Q => ∃ x xs, vs = [x] ∧ RowAt H x xs ∧ Q (.int (xs.length : Int)) H
/-- isinstance(x, (list, tuple)) -/
def LT (H : Hp) (v : V) (b : Bool) : Prop := (b = true ∧ ∃ xs, RowAt H v xs) ∨ (b = false ∧ (v = .non ∨ (∃ z, v = .str z) ∨ (∃ i, v = .int i) ∨ ∃ c, v = .bl c))
def rLT : List V → Hp → VK → Prop := fun vs H Q => ∃ v tp b, vs = [v, .ref tp] ∧ H tp = some (.tup [.ty "list", .ty "tuple"]) ∧ LT H v b ∧ Q (.bl b) H
def rTupRow : List V → Hp → VK → Prop := fun vs H Q => ∃ v xs, vs = [v] ∧ RowAt H v xs ∧ ∀ a H', Same H H' → H' a = some (.tup xs) → Q (.ref a) H'
section
variable {X : Cx}
theorem ix_row : IxR X rIxRow := by
  intro value slice pins s σ H x y v u Q I rx ry h hs
  obtain ⟨xs, i, w, ⟨a, rfl, h1 | h1⟩, rfl, ha, q⟩ := h
  · exact ix_tup (X := X) value slice pins s σ H _ _ v u Q I rx ry ⟨a, xs, i, w, rfl, rfl, SqT.of h1, ha, q⟩ hs
  · exact ix_list (X := X) value slice pins s σ H _ _ v u Q I rx ry ⟨a, xs, i, w, rfl, rfl, SqL.of h1, ha, q⟩ hs
theorem call_len_row : CallR X (.builtin "len") rLenRow := by
  intro pins s σ H xs us Q I r h
  obtain ⟨x, ys, rfl, ⟨a, rfl, h1 | h1⟩, q⟩ := h
  · exact call_len_seq (X := X) pins s σ H _ us Q I r ⟨a, ys, rfl, .inr (SqT.of h1), q⟩
  · exact call_len_seq (X := X) pins s σ H _ us Q I r ⟨a, ys, rfl, .inl (SqL.of h1), q⟩
theorem kitLT {K : PySem.W.Frag} {n : String} {b c : Bool} (h1 : kitB n "list" = some b) (h2 : kitB n "tuple" = some c) : PySem.W.kitAny K (.type n) [.type "list", .type "tuple"] = some (b || c) :=
  kitAny_cons (kit_ty h1) (fun e => by
    subst e
    exact kitAny_cons (kit_ty h2) (fun e2 => by
      subst e2
      exact kitAny_nil) (fun e2 => by
      subst e2
      rfl)) (fun e => by
    subst e
    rfl)
theorem isi_LT : CallR X (.builtin "isinstance") rLT := by
  intro pins s σ H xs us Q I r h
  obtain ⟨v, tp, b, rfl, ht, hl, q⟩ := h
  have go : ∀ (n : String) (c : Bool), TyX X.K H v (.type n) → PySem.W.kitAny X.K (.type n) [.type "list", .type "tuple"] = some c → Q (.bl c) H → wpAny (model X.prog X.w) X.A (call (.builtin "isinstance") us) (EP X pins σ Q) X.xe s := fun n c t k q =>
    call_isiT (X := X) pins s σ H _ us Q I r ⟨v, tp, _, .type n, [.type "list", .type "tuple"], c, rfl, ht, .cons (.ty "list") (.cons (.ty "tuple") .nil), t, k, q⟩
  rcases hl with ⟨rfl, ys, a, rfl, h1 | h1⟩ | ⟨rfl, rfl | ⟨z, rfl⟩ | ⟨i, rfl⟩ | ⟨c, rfl⟩⟩
  · exact go "tuple" true (.base (.tup h1)) (kitLT (b := false) (c := true) (by decide +kernel) (by decide +kernel)) q
  · exact go "list" true (.base (.lst h1)) (kitLT (b := true) (c := false) (by decide +kernel) (by decide +kernel)) q
  · exact go "NoneType" false (.base .non) (kitLT (b := false) (c := false) (by decide +kernel) (by decide +kernel)) q
  · exact go "str" false (.base (.str z)) (kitLT (b := false) (c := false) (by decide +kernel) (by decide +kernel)) q
  · exact go "int" false (.base (.int i)) (kitLT (b := false) (c := false) (by decide +kernel) (by decide +kernel)) q
  · exact go "bool" false (.base (.bl c)) (kitLT (b := false) (c := false) (by decide +kernel) (by decide +kernel)) q
theorem call_tup_row : CallR X (.type "tuple") rTupRow := by
  intro pins s σ H xs us Q I r h
  obtain ⟨v, ys, rfl, ⟨a, rfl, h1 | h1⟩, q⟩ := h
  · exact call_tuple_of (X := X) pins s σ H _ us Q I r ⟨a, ys, rfl, .inr ⟨SqT.of h1, q a H (Same.refl H) h1⟩⟩
  · exact call_tuple_of (X := X) pins s σ H _ us Q I r ⟨a, ys, rfl, .inl ⟨SqL.of h1, fun l hl => q l _ (same_mk hl) upd_same⟩⟩
/-- a walk over a name that holds a tuple or a list -/
def iSeqV (K : PySem.W.Frag) (i : Nat) : TI := fun σ H R => ∃ a, σ[i]? = some (some (.ref a)) ∧ ((∃ xs, SqT K H a xs ∧ R (Itt K a) H) ∨ ∃ xs, SqL K H a xs ∧ R (Itl K a) H)
theorem pi_seqv {tg l : Expr} {i : Nat} (hl : PE X l (tVar i)) : PI X tg l (iSeqV X.K i) := by
  refine ⟨fun pins s σ H R I h => ?_⟩
  obtain ⟨a, ha, ⟨xs, q, r⟩ | ⟨xs, q, r⟩⟩ := h
  · exact (pi_tup hl).run pins s σ H R I ⟨_, ha, a, rfl, ⟨xs, q⟩, r⟩
  · exact (pi_list hl).run pins s σ H R I ⟨_, ha, a, rfl, ⟨xs, q⟩, r⟩
end
section
variable {K : PySem.W.Frag} {α : Type} {i j : Nat} {te : TE} {σ : L2.St} {H : Hp} {v : V} {Q : VK}
theorem lc_row (zs : List α) (u g : α → V) (hi : σ[i]? = some (some v)) (h : RowAt H v (zs.map u)) (hs : zs.length < 1000000)
    (turn : ∀ z ∈ zs, ∀ H2, Same H H2 → ∀ Q1 : VK, (∀ H4, Same H2 H4 → Q1 (g z) H4) → te ((wipe σ [j]).set j (some (u z))) H2 Q1) (hd : ∀ D H', Same H H' → H D = none → H' D = some (.lst (zs.map g)) → Q (.ref D) H') :
    tLc (iSeqV K i) (gName j) tYes te [j] σ H Q := by
  obtain ⟨a, rfl, h1 | h1⟩ := h
  · exact ⟨a, hi, .inl ⟨_, SqT.of h1, fun D hD => lc_mapT zs u g hs hD (SqT.of h1) turn fun H' s h2 => hd D H' s hD h2⟩⟩
  · exact ⟨a, hi, .inr ⟨_, SqL.of h1, fun D hD => lc_mapL zs u g hs hD (SqL.of h1) turn fun H' s h2 => hd D H' s hD h2⟩⟩
theorem all_row (zs : List α) (u : α → V) (f : α → Bool) (hi : σ[i]? = some (some v)) (h : RowAt H v (zs.map u)) (hs : zs.length < 1000000)
    (turn : ∀ z ∈ zs, ∀ H2, Same H H2 → ∀ Q1 : VK, (∀ H4, Same H2 H4 → Q1 (.bl (f z)) H4) → te ((wipe σ [j]).set j (some (u z))) H2 Q1) (hd : ∀ H', Same H H' → Q (.bl (zs.all f)) H') :
    tCB (rAll K) (tCons (tLc (iSeqV K i) (gName j) tYes te [j]) tNil) σ H Q := by
  show tLc (iSeqV K i) (gName j) tYes te [j] σ H fun v H1 => rAll K [v] H1 Q
  exact lc_row zs u (fun z => .bl (f z)) hi h hs turn fun D H' s _ hD => all_of zs f hD (hd H' s)
theorem any_row (zs : List α) (u : α → V) (f : α → Bool) (hi : σ[i]? = some (some v)) (h : RowAt H v (zs.map u)) (hs : zs.length < 1000000)
    (turn : ∀ z ∈ zs, ∀ H2, Same H H2 → ∀ Q1 : VK, (∀ H4, Same H2 H4 → Q1 (.bl (f z)) H4) → te ((wipe σ [j]).set j (some (u z))) H2 Q1) (hd : ∀ H', Same H H' → Q (.bl (zs.any f)) H') :
    tCB (rAny K) (tCons (tLc (iSeqV K i) (gName j) tYes te [j]) tNil) σ H Q := by
  show tLc (iSeqV K i) (gName j) tYes te [j] σ H fun v H1 => rAny K [v] H1 Q
  exact lc_row zs u (fun z => .bl (f z)) hi h hs turn fun D H' s _ hD => any_of zs f hD (hd H' s)
theorem set_row {y : Nat} {D0 : Ends} (zs : List α) (u g : α → V) (hi : σ[i]? = some (some v)) (h : RowAt H v (zs.map u)) (hs : zs.length < 1000000)
    (turn : ∀ z ∈ zs, ∀ H2, Same H H2 → ∀ Q1 : VK, (∀ H4, Same H2 H4 → Q1 (g z) H4) → te ((wipe σ [j]).set j (some (u z))) H2 Q1) (hd : ∀ D H', Same H H' → H D = none → H' D = some (.lst (zs.map g)) → D0.nx (σ.set y (some (.ref D))) H') :
    tAsg (tLc (iSeqV K i) (gName j) tYes te [j]) (gName y) D0 σ H := by
  show tLc (iSeqV K i) (gName j) tYes te [j] σ H fun x H1 => D0.nx (σ.set y (some x)) H1
  exact lc_row zs u g hi h hs turn hd
theorem iteY {c A B : Prop} [Decidable c] (h : c) (a : A) : if decide c = true then A else B := by
  rw [if_pos (decide_eq_true h)]
  exact a
theorem iteN {c A B : Prop} [Decidable c] (h : ¬ c) (b : B) : if decide c = true then A else B := by
  rw [if_neg (by rw [decide_eq_false h]; exact Bool.false_ne_true)]
  exact b
theorem cut_1 (xs : List V) : cutV xs (some 1) none = xs.drop 1 := by
  show (xs.drop (HT.sIx xs.length 0 (some ((1 : Nat) : Int)))).take (HT.sIx xs.length xs.length none - HT.sIx xs.length 0 (some ((1 : Nat) : Int))) = xs.drop 1
  rw [HT.sIx_nat, HT.sIx_none]
  by_cases h : 1 ≤ xs.length
  · rw [Nat.min_eq_left h, List.take_of_length_le (by rw [List.length_drop]; exact Nat.le_refl _)]
  · rw [List.drop_eq_nil_of_le (by omega), List.drop_eq_nil_of_le (by omega)]
    exact List.take_nil
end
/-! two names for each item: zip, enumerate -/
section
variable {J : It} {n : Nat} {G : Hp → Prop} {fx fy : Nat → Option V} {i j : Nat} {te : TE} {σ : L2.St} {H1 : Hp} {D : Addr} {Qd : Hp → Prop} {K : PySem.W.Frag}
theorem wipe2 (hij : i ≠ j) (x y : V) : wipe (((wipe σ [i, j]).set i (some x)).set j (some y)) [i, j] = wipe σ [i, j] := by
  show (((((σ.set j none).set i none).set i (some x)).set j (some y)).set j none).set i none = (σ.set j none).set i none
  rw [List.set_set, List.set_set, List.set_comm _ _ hij, List.set_set, List.set_set]
theorem lcW2 (w : Walk J n G (YPair fx fy)) (hij : i ≠ j) (ys : List V) (hn : ys.length = n) (hs : n < 1000000) (hD : H1 D = none) (hG : ∀ H', Same H1 H' → G H')
    (turn : ∀ (m : Nat) (x x' y : V) (H2 : Hp), ys[m]? = some y → fx m = some x → fy m = some x' → Same H1 H2 → ∀ Q1 : VK, (∀ H4, Same H2 H4 → Q1 y H4) → te (((wipe σ [i, j]).set i (some x)).set j (some x')) H2 Q1)
    (hd : ∀ H', Same H1 H' → H' D = some (.lst ys) → Qd H') :
    ∃ W : Nat → Nat → Hp → Prop, (∃ m, W 0 m (upd H1 D (.lst []))) ∧ ∀ k m H, W k m H →
      (J.stop k H ∧ Qd H) ∨ (J.go k H ∧ ∃ Nx : Hp → Prop, (∀ H', Nx H' → ∃ m', m' < m ∧ W (k + 1) m' H') ∧ ∀ x H', J.yld k H x H' → gTup K 2 (gCons (gName i) (gCons (gName j) gNil)) x (wipe σ [i, j]) H' fun σ2 H2 => wipe σ2 [i, j] = wipe σ [i, j] ∧ tYes σ2 H2 fun b H3 =>
        if b = true then te σ2 H3 fun y H4 => ∃ acc, H4 D = some (.lst acc) ∧ acc.length < sizeLine ∧ Nx (upd H4 D (.lst (acc ++ [y]))) else Nx H3) := by
  subst hn
  refine lc_it w (fun i H' => Same H1 H' ∧ H' D = some (.lst (ys.take i))) ⟨same_mk hD, upd_same⟩ (fun i H' _ q => hG H' q.1) ?_ ?_
  · rintro m x H2 H3 hi ⟨s2, hd2⟩ ⟨T, x1, x2, rfl, hT, rfl, e1, e2⟩
    have hy : ys[m]? = some ys[m] := List.getElem?_eq_getElem hi
    refine ⟨T, _, rfl, SqT.of upd_same, rfl, x1, _, rfl, x2, _, rfl, rfl, wipe2 hij x1 x2, ?_⟩
    have s3 : Same H2 (upd H2 T (.tup [x1, x2])) := same_mk hT
    refine turn m x1 x2 ys[m] _ hy e1 e2 (s2.trans s3) _ fun H4 s4 => ⟨_, s4 _ _ (s3 _ _ hd2), ?_, same_ch ((s2.trans s3).trans s4) hD, ?_⟩
    · rw [List.length_take]
      exact Nat.lt_of_lt_of_le (show min m ys.length < 1000000 by omega) (by decide)
    · rw [upd_same, List.take_succ, hy]
      rfl
  · rintro H' ⟨s, h⟩
    rw [List.take_length] at h
    exact hd H' s h
end
/-! values told by what is true of them, where only tuples count -/
section
variable {J : It} {n : Nat} {G : Hp → Prop} {Y : Nat → Hp → V → Hp → Prop} {j : Nat} {te : TE} {σ : L2.St} {H1 : Hp} {D : Addr} {Qd : Hp → Prop}
def TupS (H H' : Hp) : Prop := ∀ b xs, H b = some (.tup xs) → H' b = some (.tup xs)
theorem TupS.of {H H' : Hp} (s : Same H H') : TupS H H' := fun b xs h => s b _ h
theorem lcR (w : Walk J n G Y) (R : Nat → V → Hp → Prop) (mono : ∀ i y H H', TupS H H' → R i y H → R i y H') (hs : n < 1000000) (hD : H1 D = none) (hG : ∀ H', Same H1 H' → G H')
    (turn : ∀ (i : Nat) (x : V) (H2 H3 : Hp), i < n → Same H1 H2 → Y i H2 x H3 → ∀ Q1 : VK, (∀ y H4, Same H2 H4 → R i y H4 → Q1 y H4) → te ((wipe σ [j]).set j (some x)) H3 Q1)
    (hd : ∀ ys H', ys.length = n → Same H1 H' → H' D = some (.lst ys) → (∀ i y, ys[i]? = some y → R i y H') → Qd H') :
    ∃ W : Nat → Nat → Hp → Prop, (∃ m, W 0 m (upd H1 D (.lst []))) ∧ ∀ i m H, W i m H →
      (J.stop i H ∧ Qd H) ∨ (J.go i H ∧ ∃ Nx : Hp → Prop, (∀ H', Nx H' → ∃ m', m' < m ∧ W (i + 1) m' H') ∧ ∀ x H', J.yld i H x H' → gName j x (wipe σ [j]) H' fun σ2 H2 => wipe σ2 [j] = wipe σ [j] ∧ tYes σ2 H2 fun b H3 =>
        if b = true then te σ2 H3 fun y H4 => ∃ acc, H4 D = some (.lst acc) ∧ acc.length < sizeLine ∧ Nx (upd H4 D (.lst (acc ++ [y]))) else Nx H3) := by
  refine lc_it w (fun i H' => Same H1 H' ∧ ∃ ys, ys.length = i ∧ H' D = some (.lst ys) ∧ ∀ m y, ys[m]? = some y → R m y H') ⟨same_mk hD, [], rfl, upd_same, fun m y h => by cases h⟩ (fun i H' _ q => hG H' q.1) ?_ ?_
  · rintro i x H2 H3 hi ⟨s2, ys, hl, hd2, hr⟩ y
    refine ⟨wipe1 x, ?_⟩
    refine turn i x H2 H3 hi s2 y _ fun v H4 s4 r => ?_
    have hd4 := s4 _ _ hd2
    have up : TupS H4 (upd H4 D (.lst (ys ++ [v]))) := fun b xs h => by
      rw [upd_ne (ne_of h hd4 (by intro z; cases z))]
      exact h
    refine ⟨_, hd4, Nat.lt_of_lt_of_le (show ys.length < 1000000 by omega) (by decide), same_ch (s2.trans s4) hD, ys ++ [v], by rw [List.length_append, hl]; rfl, upd_same, fun m z hm => ?_⟩
    by_cases e : m < ys.length
    · rw [List.getElem?_append_left e] at hm
      exact mono _ _ _ _ up (mono _ _ _ _ (TupS.of s4) (hr m z hm))
    · rw [List.getElem?_append_right (by omega)] at hm
      have e2 : m = ys.length := by
        have := (List.getElem?_eq_some_iff.mp hm).1
        rw [List.length_singleton] at this
        omega
      subst e2
      rw [Nat.sub_self] at hm
      cases hm
      rw [hl]
      exact mono _ _ _ _ up r
  · rintro H' ⟨s, ys, hl, h, hr⟩
    exact hd ys H' hl s h hr
end
section
variable {K : PySem.W.Frag} {i j : Nat} {te : TE} {σ : L2.St} {H : Hp} {v : V} {Q : VK}
theorem lcR_row (xs : List V) (R : Nat → V → Hp → Prop) (mono : ∀ i y H H', TupS H H' → R i y H → R i y H') (hi : σ[i]? = some (some v)) (h : RowAt H v xs) (hs : xs.length < 1000000)
    (turn : ∀ (m : Nat) (x : V) (H2 : Hp), xs[m]? = some x → Same H H2 → ∀ Q1 : VK, (∀ y H4, Same H2 H4 → R m y H4 → Q1 y H4) → te ((wipe σ [j]).set j (some x)) H2 Q1)
    (hd : ∀ D ys H', ys.length = xs.length → Same H H' → H D = none → H' D = some (.lst ys) → (∀ i y, ys[i]? = some y → R i y H') → Q (.ref D) H') : tLc (iSeqV K i) (gName j) tYes te [j] σ H Q := by
  obtain ⟨a, rfl, h1 | h1⟩ := h
  · refine ⟨a, hi, .inl ⟨_, SqT.of h1, fun D hD => lcR (walk_tup (K := K) (a := a) (xs := xs)) R mono hs hD (fun H' s => sameT s (SqT.of h1)) ?_ fun ys H' l s h2 r => hd D ys H' l s hD h2 r⟩⟩
    rintro m x H2 H3 hm s ⟨rfl, hx⟩ Q1 k
    exact turn m x _ hx s Q1 k
  · refine ⟨a, hi, .inr ⟨_, SqL.of h1, fun D hD => lcR (walk_list (K := K) (a := a) (xs := xs)) R mono hs hD (fun H' s => s.seq (SqL.of h1)) ?_ fun ys H' l s h2 r => hd D ys H' l s hD h2 r⟩⟩
    rintro m x H2 H3 hm s ⟨rfl, hx⟩ Q1 k
    exact turn m x _ hx s Q1 k
theorem setR_row {y : Nat} {D0 : Ends} (xs : List V) (R : Nat → V → Hp → Prop) (mono : ∀ i y H H', TupS H H' → R i y H → R i y H') (hi : σ[i]? = some (some v)) (h : RowAt H v xs) (hs : xs.length < 1000000)
    (turn : ∀ (m : Nat) (x : V) (H2 : Hp), xs[m]? = some x → Same H H2 → ∀ Q1 : VK, (∀ y H4, Same H2 H4 → R m y H4 → Q1 y H4) → te ((wipe σ [j]).set j (some x)) H2 Q1)
    (hd : ∀ D ys H', ys.length = xs.length → Same H H' → H D = none → H' D = some (.lst ys) → (∀ i y, ys[i]? = some y → R i y H') → D0.nx (σ.set y (some (.ref D))) H') : tAsg (tLc (iSeqV K i) (gName j) tYes te [j]) (gName y) D0 σ H := by
  show tLc (iSeqV K i) (gName j) tYes te [j] σ H fun x H1 => D0.nx (σ.set y (some x)) H1
  exact lcR_row xs R mono hi h hs turn hd
end
end CB

set_option maxHeartbeats 3900000
namespace G
open PySem PySem.Spec PyProof.Rows L2 TL
open C8 (pss_cut tCut pe_gc)
open CB
abbrev sIsName : Stmt := top 5
abbrev sIsPath : Stmt := top 6
abbrev sIsPlace : Stmt := top 7
abbrev sBeg : Stmt := top 8
abbrev sBen : Stmt := top 9
abbrev sAt : Stmt := top 10
abbrev sRest : Stmt := top 11
def Sh (z : Str) : Prop := z.length ≤ 1000
theorem Sh.line {z : Str} (h : Sh z) : z.length ≤ sizeLine := Nat.le_trans h (by decide)
theorem js_len : ∀ {p : List Str}, Nms p → (js p).length ≤ 9 * p.length
  | [], _ => Nat.le_of_eq rfl
  | [y], h => by
    rw [js_one]
    have := (h y List.mem_cons_self).2.1
    show y.length ≤ 9
    omega
  | y :: z :: r, h => by
    have ih := js_len (p := z :: r) h.tail
    have := (h y List.mem_cons_self).2.1
    rw [js_cons y (by simp), len_tl, tl_append, tl_append, List.length_append, List.length_append, tl_sl, ← len_tl, ← len_tl]
    show y.length + 1 + (js (z :: r)).length ≤ _
    rw [List.length_cons (a := y)]
    omega
theorem js_sh {p : List Str} (h : Nms p) (hl : p.length ≤ 100) : Sh (js p) := by
  have := js_len h
  unfold Sh
  omega
theorem nm_sh {y : Str} (h : IsNm y) : Sh y := by
  have := h.2.1
  unfold Sh
  omega
/-- the package's constants and what it reads of the built-in names -/
structure TPk (mg : Str → Option Value) : Prop where
  b : TB mg
  STROKE : ∃ t, mg "STROKE" = some (.str "/" t)
  ROOT : ∃ t, mg "ROOT" = some (.str "" t)
  LETTERS : ∃ t, mg "LETTERS" = some (.str letters t)
  LONGEST : ∃ t, mg "LONGEST" = some (.int 8 t)
def spS1 (C : Str → Prop) (g : Str → V) : Sp := fun vs H Q _ => ∃ z, vs = [.str z] ∧ C z ∧ ∀ H', Same H H' → Q (g z) H'
def spS2 (C : Str → Str → Prop) (g : Str → Str → V) : Sp := fun vs H Q _ => ∃ x y, vs = [.str x, .str y] ∧ C x y ∧ ∀ H', Same H H' → Q (g x y) H'
def begS (z : Str) : Str := if decide (z = "") = true then "" else z ++ "/"
theorem begS_js {p : List Str} (h : Nms p) : begS (js p) = bg p := bg_str p h
def benS (x y : Str) : Bool := (!decide (x = y)) && Txt.startswith x (begS y)
theorem benS_js {p q : List Str} (hp : Nms p) (hq : Nms q) : benS (js p) (js q) = ben p q := by
  unfold benS
  rw [begS_js hq, js_eq hp hq, ← sw_bg hp hq]
  by_cases e : p = q <;> simp [e]
abbrev spIsName : Sp := spS1 Sh fun z => .bl (decide (IsNm z))
def spIsPath : Sp := fun vs H Q _ => ∃ p, vs = [.str (js p)] ∧ Nms p ∧ p.length ≤ 100 ∧ ∀ H', Same H H' → Q (.bl (decide (p ≠ []))) H'
def spIsPlace : Sp := fun vs H Q _ => ∃ p, vs = [.str (js p)] ∧ Nms p ∧ p.length ≤ 100 ∧ ∀ H', Same H H' → Q (.bl true) H'
abbrev spBeg : Sp := spS1 Sh fun z => .str (begS z)
abbrev spBen : Sp := spS2 (fun x y => Sh x ∧ Sh y) fun x y => .bl (benS x y)
abbrev spAt : Sp := spS2 (fun x y => Sh x ∧ Sh y) fun x y => .bl (decide (x = y) || benS x y)
abbrev spRest : Sp := spS2 (fun x y => Sh x ∧ Sh y) fun x y => .str (cutS x (some ((begS y).length : Int)) none)
theorem isNm_eq (z : Str) : decide (IsNm z) = (decide (1 ≤ z.length) && decide (z.length ≤ 8) && (tl z).all fun c => decide (c ∈ letters.cps.toList)) := by
  apply Bool.eq_iff_iff.mpr
  rw [decide_eq_true_iff, Bool.and_eq_true, Bool.and_eq_true, decide_eq_true_iff, decide_eq_true_iff, List.all_eq_true]
  constructor
  · rintro ⟨h1, h2, h3⟩
    refine ⟨⟨h1, h2⟩, fun c hc => decide_eq_true ?_⟩
    obtain ⟨a, b⟩ := h3 c hc
    have := letter_at (c - 97) (by omega)
    rw [show 97 + (c - 97) = c by omega] at this
    exact List.mem_of_getElem? this
  · rintro ⟨⟨h1, h2⟩, h3⟩
    exact ⟨h1, h2, fun c hc => letters_all c (of_decide_eq_true (h3 c hc))⟩
section
variable {P : Program} {w : World} {K : PySem.W.Frag} {mg : Str → Option Value} {base : Heap}
theorem scIsName : FnScope ["thing", "letter"] ["thing"] (defScope sIsName) := ⟨rfl, rfl, rfl, by decide +kernel, rfl, by decide +kernel, by decide +kernel⟩
theorem ok_isName {f : Addr} {fd : FuncData} (F : Fun K "is_name" "is_name" sIsName f fd) (T0 : TPk mg) : FnOk P w K mg base CX0 1 f fd ["thing"] spIsName := by
  have T := T0.b
  obtain ⟨t1, mLETTERS⟩ := T0.LETTERS
  obtain ⟨t2, mLONGEST⟩ := T0.LONGEST
  refine F.ok scIsName (fun vs H Q E h => ?_) (fun cdv A outer s H vs Q E hr h => ?_)
  · obtain ⟨z, rfl, _⟩ := h
    rfl
  · obtain ⟨z, rfl, hz, k⟩ := h
    refine ⟨_, pss_cons (ps_if (PW.pt (pw_or (pt_not (pt_val (pe_callB call_isi (by rfl) T.isinstance (by decide +kernel) (pa_cons (pv 0) (pa_cons (pe_bltn (v := .ty "str") (by rfl) T.str (by decide +kernel) rfl) pa_nil))))) (pw_or1 (pt_not (pt_chain op_le op_le pe_int (pe_callB call_len_str (by rfl) T.len PySem.boot_len (pa_cons (pv 0) pa_nil)) (pe_glob (v := .int 8) rfl mLONGEST ⟨_, rfl⟩)))))) (pss_one (ps_ret pe_bl)) (pss_nil))
        (pss_one (ps_ret (pe_callB (cr_all rfl) (by rfl) T.all boot_all (pa_cons (pe_lc (own := [("letter", 1)]) (g := gName 1) (tt := tYes) rfl scIsName.nd (pi_str (pv 0)) (blkOk_by (own := [("letter", 1)]) (N := ["thing", "letter"]) (sc := defScope sIsName) (by decide +kernel)) (fun _ _ _ _ _ => (pg_name (i := 1) scIsName.nd rfl (Or.inl rfl))) (fun _ _ _ _ _ => pts_nil) (fun _ _ _ _ _ => (pe_cmpR op_in_sign (pv 1) (pe_glob (v := .str letters) rfl mLETTERS ⟨_, rfl⟩) (by rfl)))) pa_nil)))), ?_⟩
    refine ⟨_, rfl, _, _, .type "str", .type "str", true, rfl, .ty "str", .base (.str _), kit_ty (by decide +kernel), _, rfl, iteF ⟨_, rfl, _, rfl, hz.line, _, _, rfl, rfl, _, rfl, ?_⟩⟩
    have k : ∀ H', Same H H' → Q (.bl (decide (IsNm z))) H' := k
    rw [isNm_eq] at k
    by_cases h1 : 1 ≤ z.length
    · rw [decide_eq_true (show (1 : Int) ≤ (z.length : Int) by omega)]
      rw [decide_eq_true h1, Bool.true_and] at k
      refine iteT ⟨_, _, rfl, rfl, _, rfl, ?_⟩
      by_cases h8 : z.length ≤ 8
      · rw [decide_eq_true (show ((z.length : Nat) : Int) ≤ (8 : Int) by omega)]
        rw [decide_eq_true h8, Bool.true_and] at k
        refine iteF ⟨_, rfl, z, rfl, fun D hD => ?_⟩
        refine lc_mapS z (fun c => .bl (decide (c ∈ letters.cps.toList))) (by omega) hD ?_ ?_
        · intro c hc H2 s2 Q1 k1
          exact ⟨_, rfl, c, letters, rfl, rfl, k1 H2 (Same.refl H2)⟩
        · intro H' s' hD'
          exact all_of _ _ hD' (k H' s')
      · rw [decide_eq_false (show ¬ ((z.length : Nat) : Int) ≤ (8 : Int) by omega)]
        rw [decide_eq_false h8, Bool.false_and] at k
        exact iteT (k H (Same.refl H))
    · rw [decide_eq_false (show ¬ (1 : Int) ≤ (z.length : Int) by omega)]
      rw [decide_eq_false h1, Bool.false_and, Bool.false_and] at k
      exact iteF ⟨_, rfl, iteT (k H (Same.refl H))⟩
theorem scIsPath : FnScope ["thing", "part"] ["thing"] (defScope sIsPath) := ⟨rfl, rfl, rfl, by decide +kernel, rfl, by decide +kernel, by decide +kernel⟩
theorem ok_isPath {f fN : Addr} {fd fdN : FuncData} (F : Fun K "is_path" "is_path" sIsPath f fd) (T0 : TPk mg) (aIsName : At K mg "is_name" fN fdN ["thing"]) (GIsName : FnOk P w K mg base CX0 1 fN fdN ["thing"] spIsName) : FnOk P w K mg base CX0 2 f fd ["thing"] spIsPath := by
  have T := T0.b
  obtain ⟨t1, mSTROKE⟩ := T0.STROKE
  refine F.ok scIsPath (fun vs H Q E h => ?_) (fun cdv A outer s H vs Q E hr h => ?_)
  · obtain ⟨z, rfl, _⟩ := h
    rfl
  · obtain ⟨p, rfl, hp, hl, k⟩ := h
    refine ⟨_, pss_one (ps_ret (pe_and (pe_callB call_isi (by rfl) T.isinstance (by decide +kernel) (pa_cons (pv 0) (pa_cons (pe_bltn (v := .ty "str") (by rfl) T.str (by decide +kernel) rfl) pa_nil))) (pe_one (pe_callB (cr_all rfl) (by rfl) T.all boot_all (pa_cons (pe_lc (own := [("part", 1)]) (g := gName 1) (tt := tYes) rfl scIsPath.nd (pi_list (pe_bm PySem.F.plainAttrs_str PySem.F.slot_str_split PySem.F.type_str_split mt_split (pv 0) (pa_cons (pe_glob (v := .str "/") rfl mSTROKE ⟨_, rfl⟩) pa_nil))) (blkOk_by (own := [("part", 1)]) (N := ["thing", "part"]) (sc := defScope sIsPath) (by decide +kernel)) (fun _ _ _ _ _ => (pg_name (i := 1) scIsPath.nd rfl (Or.inl rfl))) (fun _ _ _ _ _ => pts_nil) (fun _ _ _ _ _ => (pe_call GIsName (hr.mono (by decide)) rfl aIsName.m aIsName.k aIsName.b .nil pass0 (pa_cons (pv 1) pa_nil)))) pa_nil))))), ?_⟩
    have hs := js_sh hp hl
    obtain ⟨ys, e1, e2, e3⟩ : ∃ ys, Txt.split (js p) "/" = ys ∧ (∀ y ∈ ys, Sh y) ∧ (ys.length < 1000000 ∧ ys.all (fun y => decide (IsNm y)) = decide (p ≠ [])) := by
      by_cases h : p = []
      · subst h
        refine ⟨[""], by decide +kernel, ?_, by decide, by decide +kernel⟩
        intro y hy
        rw [List.mem_singleton.mp hy]
        exact Nat.zero_le _
      · refine ⟨p, split_js hp h, fun y hy => nm_sh (hp y hy), by omega, ?_⟩
        rw [decide_eq_true h, List.all_eq_true]
        exact fun y hy => decide_eq_true (hp y hy)
    refine ⟨_, rfl, _, _, .type "str", .type "str", true, rfl, .ty "str", .base (.str _), kit_ty (by decide +kernel), true, rfl, iteT ⟨_, rfl, rfl, js p, "/", rfl, rfl, rfl, ?_, fun l hl' => ⟨l, rfl, ⟨_, SqL.of upd_same⟩, fun D hD => ?_⟩⟩⟩
    · have := hs
      unfold Sh at this
      exact Nat.le_trans (show (js p).length + 2 ≤ 1002 by omega) (by decide)
    · rw [e1] at hD ⊢
      have s1 : Same H (upd H l (.lst (ys.map V.str))) := same_mk hl'
      refine lc_mapL ys V.str (fun y => .bl (decide (IsNm y))) e3.1 hD (SqL.of upd_same) ?_ ?_
      · intro y hy H2 s2 Q1 k1
        exact ⟨_, rfl, y, rfl, e2 y hy, k1⟩
      · intro H' s' hD'
        refine all_of _ _ hD' ?_
        rw [e3.2]
        exact k H' (s1.trans s')
theorem scIsPlace : FnScope ["thing"] ["thing"] (defScope sIsPlace) := ⟨rfl, rfl, rfl, by decide +kernel, rfl, by decide +kernel, by decide +kernel⟩
theorem ok_isPlace {f fN : Addr} {fd fdN : FuncData} (F : Fun K "is_place" "is_place" sIsPlace f fd) (T0 : TPk mg) (aIsPath : At K mg "is_path" fN fdN ["thing"]) (GIsPath : FnOk P w K mg base CX0 2 fN fdN ["thing"] spIsPath) : FnOk P w K mg base CX0 3 f fd ["thing"] spIsPlace := by
  have T := T0.b
  obtain ⟨t1, mROOT⟩ := T0.ROOT
  refine F.ok scIsPlace (fun vs H Q E h => ?_) (fun cdv A outer s H vs Q E hr h => ?_)
  · obtain ⟨z, rfl, _⟩ := h
    rfl
  · obtain ⟨p, rfl, hp, hl, k⟩ := h
    refine ⟨_, pss_one (ps_ret (pe_or (pe_call GIsPath (hr.mono (by decide)) rfl aIsPath.m aIsPath.k aIsPath.b .nil pass0 (pa_cons (pv 0) pa_nil)) (pe_one (pe_and (pe_callB call_isi (by rfl) T.isinstance (by decide +kernel) (pa_cons (pv 0) (pa_cons (pe_bltn (v := .ty "str") (by rfl) T.str (by decide +kernel) rfl) pa_nil))) (pe_one (pe_cmpR op_eq (pv 0) (pe_glob (v := .str "") rfl mROOT ⟨_, rfl⟩) (nomark _))))))), ?_⟩
    refine ⟨_, rfl, p, rfl, hp, hl, fun H1 s1 => ⟨_, rfl, ?_⟩⟩
    by_cases h : p = []
    · rw [decide_eq_false (not_not_intro h)]
      subst h
      exact iteF ⟨_, rfl, _, _, .type "str", .type "str", true, rfl, .ty "str", .base (.str _), kit_ty (by decide +kernel), _, rfl, iteT ⟨_, rfl, rfl, k H1 s1⟩⟩
    · rw [decide_eq_true h]
      exact iteT (k H1 s1)
theorem scBeg : FnScope ["place"] ["place"] (defScope sBeg) := ⟨rfl, rfl, rfl, by decide +kernel, rfl, by decide +kernel, by decide +kernel⟩
theorem ok_beg {f : Addr} {fd : FuncData} (F : Fun K "beginning" "beginning" sBeg f fd) (T0 : TPk mg) : FnOk P w K mg base CX0 1 f fd ["place"] spBeg := by
  obtain ⟨t1, mROOT⟩ := T0.ROOT
  obtain ⟨t2, mSTROKE⟩ := T0.STROKE
  refine F.ok scBeg (fun vs H Q E h => ?_) (fun cdv A outer s H vs Q E hr h => ?_)
  · obtain ⟨z, rfl, _⟩ := h
    rfl
  · obtain ⟨z, rfl, hz, k⟩ := h
    refine ⟨_, pss_one (ps_ret (pe_ifExp (pt_cmpR op_eq (pv 0) (pe_glob (v := .str "") rfl mROOT ⟨_, rfl⟩) (nomark _)) (pe_glob (v := .str "") rfl mROOT ⟨_, rfl⟩) (pe_op op_add_str (pv 0) (pe_glob (v := .str "/") rfl mSTROKE ⟨_, rfl⟩)))), ?_⟩
    refine ⟨_, rfl, rfl, _, rfl, ?_⟩
    have k : ∀ H', Same H H' → Q (.str (begS z)) H' := k
    unfold begS at k
    by_cases h : z = ""
    · subst h
      exact iteT (k H (Same.refl H))
    · rw [decide_eq_false (show ¬ V.str z = V.str "" from fun q => h (V.str.inj q))]
      rw [decide_eq_false h] at k
      refine iteF ⟨_, rfl, _, _, rfl, rfl, ?_, k H (Same.refl H)⟩
      have := hz
      unfold Sh at this
      exact Nat.le_trans (show z.length + 1 ≤ 1001 by omega) (by decide)
theorem begS_sh {z : Str} (h : Sh z) : (begS z).length ≤ sizeLine := by
  have := h
  unfold Sh at this
  refine Nat.le_trans (show (begS z).length ≤ 1001 from ?_) (by decide)
  unfold begS
  by_cases e : z = ""
  · rw [if_pos (decide_eq_true e)]
    exact Nat.zero_le _
  · rw [if_neg (by rw [decide_eq_false e]; simp), len_tl, tl_append, List.length_append, tl_sl, ← len_tl]
    show z.length + 1 ≤ 1001
    omega
theorem scBen : FnScope ["path", "place"] ["path", "place"] (defScope sBen) := ⟨rfl, rfl, rfl, by decide +kernel, rfl, by decide +kernel, by decide +kernel⟩
theorem ok_ben {f fN : Addr} {fd fdN : FuncData} (F : Fun K "is_beneath" "is_beneath" sBen f fd) (aBeg : At K mg "beginning" fN fdN ["place"]) (GBeg : FnOk P w K mg base CX0 1 fN fdN ["place"] spBeg) : FnOk P w K mg base CX0 2 f fd ["path", "place"] spBen := by
  refine F.ok scBen (fun vs H Q E h => ?_) (fun cdv A outer s H vs Q E hr h => ?_)
  · obtain ⟨x, y, rfl, _⟩ := h
    rfl
  · obtain ⟨x, y, rfl, ⟨hx, hy⟩, k⟩ := h
    refine ⟨_, pss_one (ps_ret (pe_and (pe_cmpR op_ne (pv 0) (pv 1) (nomark _)) (pe_one (pe_bm PySem.F.plainAttrs_str PySem.F.slot_str_startswith PySem.F.type_str_startswith mt_startswith (pv 0) (pa_cons (pe_call GBeg (hr.mono (by decide)) rfl aBeg.m aBeg.k aBeg.b .nil pass0 (pa_cons (pv 1) pa_nil)) pa_nil))))), ?_⟩
    have k : ∀ H', Same H H' → Q (.bl ((!decide (x = y)) && Txt.startswith x (begS y))) H' := k
    refine ⟨_, rfl, _, rfl, rfl, _, rfl, ?_⟩
    by_cases h : x = y
    · rw [decide_eq_true (show V.str x = V.str y by rw [h])]
      rw [decide_eq_true h] at k
      exact iteF (k H (Same.refl H))
    · rw [decide_eq_false (show ¬ V.str x = V.str y from fun q => h (V.str.inj q))]
      rw [decide_eq_false h] at k
      exact iteT ⟨_, rfl, rfl, _, rfl, y, rfl, hy, fun H1 s1 => ⟨x, begS y, rfl, rfl, k H1 s1⟩⟩
theorem scAt : FnScope ["path", "place"] ["path", "place"] (defScope sAt) := ⟨rfl, rfl, rfl, by decide +kernel, rfl, by decide +kernel, by decide +kernel⟩
theorem ok_at {f fN : Addr} {fd fdN : FuncData} (F : Fun K "is_at_or_beneath" "is_at_or_beneath" sAt f fd) (aBen : At K mg "is_beneath" fN fdN ["path", "place"]) (GBen : FnOk P w K mg base CX0 2 fN fdN ["path", "place"] spBen) : FnOk P w K mg base CX0 3 f fd ["path", "place"] spAt := by
  refine F.ok scAt (fun vs H Q E h => ?_) (fun cdv A outer s H vs Q E hr h => ?_)
  · obtain ⟨x, y, rfl, _⟩ := h
    rfl
  · obtain ⟨x, y, rfl, c, k⟩ := h
    refine ⟨_, pss_one (ps_ret (pe_or (pe_cmpR op_eq (pv 0) (pv 1) (nomark _)) (pe_one (pe_call GBen (hr.mono (by decide)) rfl aBen.m aBen.k aBen.b .nil pass0 (pa_cons (pv 0) (pa_cons (pv 1) pa_nil)))))), ?_⟩
    have k : ∀ H', Same H H' → Q (.bl (decide (x = y) || benS x y)) H' := k
    refine ⟨_, rfl, _, rfl, rfl, _, rfl, ?_⟩
    by_cases h : x = y
    · rw [decide_eq_true (show V.str x = V.str y by rw [h])]
      rw [decide_eq_true h] at k
      exact iteT (k H (Same.refl H))
    · rw [decide_eq_false (show ¬ V.str x = V.str y from fun q => h (V.str.inj q))]
      rw [decide_eq_false h] at k
      exact iteF ⟨_, rfl, _, rfl, x, y, rfl, c, k⟩
theorem scRest : FnScope ["path", "place"] ["path", "place"] (defScope sRest) := ⟨rfl, rfl, rfl, by decide +kernel, rfl, by decide +kernel, by decide +kernel⟩
theorem ok_rest {f fN : Addr} {fd fdN : FuncData} (F : Fun K "rest_in" "rest_in" sRest f fd) (T0 : TPk mg) (aBeg : At K mg "beginning" fN fdN ["place"]) (GBeg : FnOk P w K mg base CX0 1 fN fdN ["place"] spBeg) : FnOk P w K mg base CX0 2 f fd ["path", "place"] spRest := by
  have T := T0.b
  refine F.ok scRest (fun vs H Q E h => ?_) (fun cdv A outer s H vs Q E hr h => ?_)
  · obtain ⟨x, y, rfl, _⟩ := h
    rfl
  · obtain ⟨x, y, rfl, ⟨hx, hy⟩, k⟩ := h
    refine ⟨_, pss_one (ps_ret (pe_slice sl_str (pv 0) (po_some (pe_callB call_len_str (by rfl) T.len PySem.boot_len (pa_cons (pe_call GBeg (hr.mono (by decide)) rfl aBeg.m aBeg.k aBeg.b .nil pass0 (pa_cons (pv 1) pa_nil)) pa_nil))) po_none)), ?_⟩
    exact ⟨_, rfl, _, rfl, y, rfl, hy, fun H1 s1 => ⟨begS y, rfl, begS_sh hy, ⟨_, rfl, x, rfl, hx.line, k H1 s1⟩⟩⟩
end
end G

set_option maxHeartbeats 3900000
namespace G
open PySem PySem.Spec PyProof.Rows L2 TL
open C8 (pss_cut tCut pe_gc)
open CB
abbrev sRow : Stmt := top 25
abbrev sAsLook : Stmt := top 26
abbrev sCanLook : Stmt := top 27
abbrev sCanShow : Stmt := top 28
abbrev sIsListing : Stmt := top 29
abbrev sIsEntry : Stmt := top 30
abbrev sAsSight : Stmt := top 31
/-- an answer: none, a text, entries (name, whether a folder) -/
inductive An
  | no
  | tx (z : Str)
  | es (l : List (Str × Bool))
deriving DecidableEq
def entV (e : Str × Bool) : V := .str (ent e.1 e.2)
/-- an answer as it is passed; as it is told -/
def AnIn (H : Hp) (v : V) : An → Prop
  | .no => v = .non
  | .tx z => v = .str z
  | .es l => RowAt H v (l.map entV)
def AnAt (H : Hp) (v : V) : An → Prop
  | .no => v = .non
  | .tx z => v = .str z
  | .es l => ∃ a, v = .ref a ∧ H a = some (.tup (l.map entV))
def SiIn (H : Hp) (v : V) (s : Lk × An) : Prop := ∃ vk va, RowAt H v [vk, va] ∧ RowAt H vk (lkV s.1) ∧ AnIn H va s.2
def SiAt (H : Hp) (v : V) (s : Lk × An) : Prop := ∃ t u va, v = .ref t ∧ H t = some (.tup [.ref u, va]) ∧ H u = some (.tup (lkV s.1)) ∧ AnAt H va s.2
theorem AnIn.up {H H' : Hp} {v : V} {a : An} (h : AnIn H v a) (s : Same H H') : AnIn H' v a := by
  cases a with
  | no => exact h
  | tx z => exact h
  | es l => exact RowAt.up h s
theorem AnAt.up {H H' : Hp} {v : V} {a : An} (h : AnAt H v a) (s : Same H H') : AnAt H' v a := by
  cases a with
  | no => exact h
  | tx z => exact h
  | es l =>
    obtain ⟨a, e, h⟩ := h
    exact ⟨a, e, s _ _ h⟩
theorem AnAt.in {H : Hp} {v : V} {a : An} (h : AnAt H v a) : AnIn H v a := by
  cases a with
  | no => exact h
  | tx z => exact h
  | es l =>
    obtain ⟨a, e, h⟩ := h
    exact ⟨a, e, .inl h⟩
theorem SiAt.up {H H' : Hp} {v : V} {a : Lk × An} (h : SiAt H v a) (s : Same H H') : SiAt H' v a := by
  obtain ⟨t, u, va, e, h1, h2, h3⟩ := h
  exact ⟨t, u, va, e, s _ _ h1, s _ _ h2, h3.up s⟩
theorem SiIn.up {H H' : Hp} {v : V} {a : Lk × An} (h : SiIn H v a) (s : Same H H') : SiIn H' v a := by
  obtain ⟨vk, va, h1, h2, h3⟩ := h
  exact ⟨vk, va, h1.up s, h2.up s, h3.up s⟩
theorem SiAt.in {H : Hp} {v : V} {a : Lk × An} (h : SiAt H v a) : SiIn H v a := by
  obtain ⟨t, u, va, e, h1, h2, h3⟩ := h
  exact ⟨.ref u, va, ⟨t, e, .inl h1⟩, ⟨u, rfl, .inl h2⟩, h3.in⟩
/-- a look, an answer that are ones -/
def LkOk : Lk → Prop
  | .rd p => p ≠ [] ∧ Nms p ∧ p.length ≤ 90
  | .ls p => Nms p ∧ p.length ≤ 90
  | .se n => IsNm n
  | .tl => True
def Ents (l : List (Str × Bool)) : Prop := (∀ e ∈ l, IsNm e.1) ∧ (l.map (·.1)).Pairwise (fun a b : Str => a.cps.toList < b.cps.toList) ∧ l.length ≤ 1000
def AnOk : Lk → An → Prop
  | .rd _, .no => True
  | .rd _, .tx _ => True
  | .ls p, .no => p ≠ []
  | .ls p, .es l => Ents l ∧ (l ≠ [] ∨ p = [])
  | .se _, .no => True
  | .se _, .tx _ => True
  | .tl, .tx _ => True
  | _, _ => False
def SiOk (s : Lk × An) : Prop := LkOk s.1 ∧ AnOk s.1 s.2
def spRow : Sp := fun vs H Q _ => ∃ v xs n, vs = [v, .int n] ∧ RowAt H v xs ∧ ∀ H', Same H H' → Q (.bl (decide ((xs.length : Int) = n))) H'
def spAsLook : Sp := fun vs H Q _ => ∃ v k, vs = [v] ∧ RowAt H v (lkV k) ∧ LkOk k ∧ ∀ t H', Same H H' → H' t = some (.tup (lkV k)) → Q (.ref t) H'
def spCanLook : Sp := fun vs H Q _ => ∃ k, vs = lkV k ∧ vs.length = 2 ∧ LkOk k ∧ ∀ H', Same H H' → Q (.bl true) H'
def spCanShow : Sp := fun vs H Q _ => ∃ t va k a, vs = [.ref t, va] ∧ H t = some (.tup (lkV k)) ∧ AnIn H va a ∧ LkOk k ∧ AnOk k a ∧ ∀ H', Same H H' → Q (.bl true) H'
def spIsListing : Sp := fun vs H Q _ => ∃ v l, vs = [v] ∧ RowAt H v (l.map entV) ∧ Ents l ∧ ∀ H', Same H H' → Q (.bl true) H'
def spIsEntry : Sp := fun vs H Q _ => ∃ n b, vs = [.str (ent n b)] ∧ IsNm n ∧ ∀ H', Same H H' → Q (.bl true) H'
def spAsSight : Sp := fun vs H Q _ => ∃ v s, vs = [v] ∧ SiIn H v s ∧ SiOk s ∧ ∀ v' H', Same H H' → SiAt H' v' s → Q v' H'
section
variable {P : Program} {w : World} {K : PySem.W.Frag} {mg : Str → Option Value} {base : Heap}
theorem scRow : FnScope ["thing", "size"] ["thing", "size"] (defScope sRow) := ⟨rfl, rfl, rfl, by decide +kernel, rfl, by decide +kernel, by decide +kernel⟩
theorem ok_row {f : Addr} {fd : FuncData} (F : Fun K "is_row" "is_row" sRow f fd) (T : TB mg) : FnOk P w K mg base CX0 1 f fd ["thing", "size"] spRow := by
  refine F.ok scRow (fun vs H Q E h => ?_) (fun cdv A outer s H vs Q E hr h => ?_)
  · obtain ⟨v, xs, n, rfl, _⟩ := h
    rfl
  · obtain ⟨v, xs, n, rfl, hv, k⟩ := h
    refine ⟨_, pss_one (ps_ret (pe_and (pe_callB isi_LT (by rfl) T.isinstance (by decide +kernel) (pa_cons (pv 0) (pa_cons (pe_tup (pa_cons (pe_bltn (v := .ty "list") (by rfl) T.list (by decide +kernel) rfl) (pa_cons (pe_bltn (v := .ty "tuple") (by rfl) T.tuple (by decide +kernel) rfl) pa_nil))) pa_nil))) (pe_one (pe_cmpR op_eq (pe_callB call_len_row (by rfl) T.len PySem.boot_len (pa_cons (pv 0) pa_nil)) (pv 1) (nomark _))))), ?_⟩
    refine ⟨_, rfl, by show 2 ≤ sizeLine; decide, fun tp ht => ⟨v, tp, true, rfl, upd_same, .inl ⟨rfl, xs, hv.up (same_mk ht)⟩, _, rfl, iteT ⟨_, rfl, v, xs, rfl, hv.up (same_mk ht), _, rfl, rfl, ?_⟩⟩⟩
    have e : decide (V.int (xs.length : Int) = V.int n) = decide ((xs.length : Int) = n) := by
      rw [decide_eq_decide]
      exact ⟨fun z => V.int.inj z, fun z => by rw [z]⟩
    rw [e]
    exact k _ (same_mk ht)
theorem scIsEntry : FnScope ["thing"] ["thing"] (defScope sIsEntry) := ⟨rfl, rfl, rfl, by decide +kernel, rfl, by decide +kernel, by decide +kernel⟩
theorem ok_isEntry {f fN : Addr} {fd fdN : FuncData} (F : Fun K "is_entry" "is_entry" sIsEntry f fd) (T0 : TPk mg) (aIsName : At K mg "is_name" fN fdN ["thing"]) (GIsName : FnOk P w K mg base CX0 1 fN fdN ["thing"] spIsName) : FnOk P w K mg base CX0 2 f fd ["thing"] spIsEntry := by
  have T := T0.b
  obtain ⟨t1, mSTROKE⟩ := T0.STROKE
  refine F.ok scIsEntry (fun vs H Q E h => ?_) (fun cdv A outer s H vs Q E hr h => ?_)
  · obtain ⟨n, b, rfl, _⟩ := h
    rfl
  · obtain ⟨n, b, rfl, hn, k⟩ := h
    refine ⟨_, pss_one (ps_ret (pe_and (pe_callB call_isi (by rfl) T.isinstance (by decide +kernel) (pa_cons (pv 0) (pa_cons (pe_bltn (v := .ty "str") (by rfl) T.str (by decide +kernel) rfl) pa_nil))) (pe_one (pe_call GIsName (hr.mono (by decide)) rfl aIsName.m aIsName.k aIsName.b .nil pass0 (pa_cons (pe_bm PySem.F.plainAttrs_str PySem.F.slot_str_removesuffix PySem.F.type_str_removesuffix mt_removesuffix (pv 0) (pa_cons (pe_glob (v := .str "/") rfl mSTROKE ⟨_, rfl⟩) pa_nil)) pa_nil))))), ?_⟩
    refine ⟨_, rfl, _, _, .type "str", .type "str", true, rfl, .ty "str", .base (.str _), kit_ty (by decide +kernel), _, rfl, iteT ⟨_, rfl, rfl, ent n b, "/", rfl, rfl, ?_, _, rfl, ?_, fun H1 s1 => ?_⟩⟩
    · have h8 := hn.2.1
      refine Nat.le_trans (show (ent n b).length ≤ 9 from ?_) (by decide)
      rw [len_tl, tl_ent, List.length_append, ← len_tl]
      cases b <;> simp <;> omega
    · rw [rms_ent hn]
      exact nm_sh hn
    · rw [rms_ent hn]
      show Q (.bl (decide (IsNm n))) H1
      rw [decide_eq_true hn]
      exact k H1 s1
theorem scCanLook : FnScope ["word", "where"] ["word", "where"] (defScope sCanLook) := ⟨rfl, rfl, rfl, by decide +kernel, rfl, by decide +kernel, by decide +kernel⟩
theorem ok_canLook {f fN fPh fPl : Addr} {fd fdN fdPh fdPl : FuncData} (F : Fun K "can_look" "can_look" sCanLook f fd) (T0 : TPk mg) (aIsName : At K mg "is_name" fN fdN ["thing"]) (aIsPath : At K mg "is_path" fPh fdPh ["thing"]) (aIsPlace : At K mg "is_place" fPl fdPl ["thing"])
    (GIsName : FnOk P w K mg base CX0 1 fN fdN ["thing"] spIsName) (GIsPath : FnOk P w K mg base CX0 2 fPh fdPh ["thing"] spIsPath) (GIsPlace : FnOk P w K mg base CX0 3 fPl fdPl ["thing"] spIsPlace) : FnOk P w K mg base CX0 4 f fd ["word", "where"] spCanLook := by
  have T := T0.b
  refine F.ok scCanLook (fun vs H Q E h => ?_) (fun cdv A outer s H vs Q E hr h => ?_)
  · obtain ⟨k, _, h2, _⟩ := h
    exact h2
  · obtain ⟨k, rfl, h2, hk, q⟩ := h
    refine ⟨_, pss_cons (ps_if (pt_not (pt_val (pe_callB call_isi (by rfl) T.isinstance (by decide +kernel) (pa_cons (pv 0) (pa_cons (pe_bltn (v := .ty "str") (by rfl) T.str (by decide +kernel) rfl) pa_nil))))) (pss_one (ps_ret pe_bl)) (pss_nil))
            (pss_cons (ps_if (pt_cmpR op_eq (pv 0) pe_str (nomark _)) (pss_one (ps_ret (pe_call GIsPath (hr.mono (by decide)) rfl aIsPath.m aIsPath.k aIsPath.b .nil pass0 (pa_cons (pv 1) pa_nil)))) (pss_nil))
            (pss_cons (ps_if (pt_cmpR op_eq (pv 0) pe_str (nomark _)) (pss_one (ps_ret (pe_call GIsPlace (hr.mono (by decide)) rfl aIsPlace.m aIsPlace.k aIsPlace.b .nil pass0 (pa_cons (pv 1) pa_nil)))) (pss_nil))
            (pss_one (ps_ret (pe_and (pe_cmpR op_eq (pv 0) pe_str (nomark _)) (pe_one (pe_call GIsName (hr.mono (by decide)) rfl aIsName.m aIsName.k aIsName.b .nil pass0 (pa_cons (pv 1) pa_nil)))))))), ?_⟩
    cases k with
    | rd p =>
      refine ⟨_, rfl, _, _, .type "str", .type "str", true, rfl, .ty "str", .base (.str _), kit_ty (by decide +kernel), _, rfl, iteF ⟨_, rfl, rfl, _, rfl, iteY rfl ⟨_, rfl, p, rfl, hk.2.1, Nat.le_trans hk.2.2 (by decide), fun H1 s1 => ?_⟩⟩⟩
      rw [decide_eq_true hk.1]
      exact q H1 s1
    | ls p =>
      exact ⟨_, rfl, _, _, .type "str", .type "str", true, rfl, .ty "str", .base (.str _), kit_ty (by decide +kernel), _, rfl, iteF ⟨_, rfl, rfl, _, rfl, iteN (by decide +kernel) ⟨_, rfl, rfl, _, rfl, iteY rfl ⟨_, rfl, p, rfl, hk.1, Nat.le_trans hk.2 (by decide), q⟩⟩⟩⟩
    | se n =>
      refine ⟨_, rfl, _, _, .type "str", .type "str", true, rfl, .ty "str", .base (.str _), kit_ty (by decide +kernel), _, rfl, iteF ⟨_, rfl, rfl, _, rfl, iteN (by decide +kernel) ⟨_, rfl, rfl, _, rfl, iteN (by decide +kernel) ⟨_, rfl, rfl, _, rfl, iteY rfl ⟨_, rfl, n, rfl, nm_sh hk, fun H1 s1 => ?_⟩⟩⟩⟩⟩
      show Q (.bl (decide (IsNm n))) H1
      rw [decide_eq_true (show IsNm n from hk)]
      exact q H1 s1
    | tl => exact absurd h2 (by decide)
theorem scAsLook : FnScope ["thing"] ["thing"] (defScope sAsLook) := ⟨rfl, rfl, rfl, by decide +kernel, rfl, by decide +kernel, by decide +kernel⟩
theorem ok_asLook {f fR fC : Addr} {fd fdR fdC : FuncData} (F : Fun K "as_look" "as_look" sAsLook f fd) (T : TB mg) (aRow : At K mg "is_row" fR fdR ["thing", "size"]) (aCanLook : At K mg "can_look" fC fdC ["word", "where"])
    (GRow : FnOk P w K mg base CX0 1 fR fdR ["thing", "size"] spRow) (GCanLook : FnOk P w K mg base CX0 4 fC fdC ["word", "where"] spCanLook) : FnOk P w K mg base CX0 5 f fd ["thing"] spAsLook := by
  refine F.ok scAsLook (fun vs H Q E h => ?_) (fun cdv A outer s H vs Q E hr h => ?_)
  · obtain ⟨v, k, rfl, _⟩ := h
    rfl
  · obtain ⟨v, k, rfl, hv, hk, q⟩ := h
    refine ⟨_, pss_cons (ps_if (PW.pt (pw_and (pt_val (pe_call GRow (hr.mono (by decide)) rfl aRow.m aRow.k aRow.b .nil pass0 (pa_cons (pv 0) (pa_cons pe_int pa_nil)))) (pw_and (pt_val (pe_callB call_isi (by rfl) T.isinstance (by decide +kernel) (pa_cons (pe_ix ix_row (pv 0) pe_int (fun _ _ => rfl)) (pa_cons (pe_bltn (v := .ty "str") (by rfl) T.str (by decide +kernel) rfl) pa_nil)))) (pw_and1 (pt_cmpR op_eq (pe_ix ix_row (pv 0) pe_int (fun _ _ => rfl)) pe_str (nomark _)))))) (pss_one (ps_ret (pe_tup (pa_cons pe_str pa_nil)))) (pss_nil))
            (pss_cons (ps_if (PW.pt (pw_and (pt_val (pe_call GRow (hr.mono (by decide)) rfl aRow.m aRow.k aRow.b .nil pass0 (pa_cons (pv 0) (pa_cons pe_int pa_nil)))) (pw_and1 (pt_val (pe_call GCanLook (hr.mono (by decide)) rfl aCanLook.m aCanLook.k aCanLook.b .nil pass0 (pa_cons (pe_ix ix_row (pv 0) pe_int (fun _ _ => rfl)) (pa_cons (pe_ix ix_row (pv 0) pe_int (fun _ _ => rfl)) pa_nil))))))) (pss_one (ps_ret (pe_tup (pa_cons (pe_ix ix_row (pv 0) pe_int (fun _ _ => rfl)) (pa_cons (pe_ix ix_row (pv 0) pe_int (fun _ _ => rfl)) pa_nil))))) (pss_nil))
            (pss_one (ps_ret pe_non))), ?_⟩
    have two : ∀ (x y : V), lkV k = [x, y] → ∃ Z : Prop, True := fun _ _ _ => ⟨True, trivial⟩
    by_cases e : k = .tl
    · subst e
      refine ⟨_, rfl, v, _, 1, rfl, hv, fun H1 s1 => ⟨_, rfl, iteY rfl ⟨_, rfl, _, 0, _, hv.up s1, rfl, atI_nat (j := 0) rfl, _, _, .type "str", .type "str", true, rfl, .ty "str", .base (.str _), kit_ty (by decide +kernel), _, rfl, iteT ⟨_, rfl, _, 0, _, hv.up s1, rfl, atI_nat (j := 0) rfl, rfl, _, rfl, iteY rfl ⟨by show 1 ≤ sizeLine; decide, fun t ht => ?_⟩⟩⟩⟩⟩
      exact q t _ (same_ch s1 (s1.free ht)) upd_same
    · obtain ⟨x, y, exy⟩ : ∃ x y, lkV k = [x, y] := by
        cases k with
        | tl => exact absurd rfl e
        | _ => exact ⟨_, _, rfl⟩
      rw [exy] at hv
      refine ⟨_, rfl, v, _, 1, rfl, hv, fun H1 s1 => ⟨_, rfl, iteN (by show ¬ ((2 : Nat) : Int) = 1; decide) ⟨_, rfl, v, _, 2, rfl, hv.up s1, fun H2 s2 => ⟨_, rfl, iteY rfl ?_⟩⟩⟩⟩
      have v2 := (hv.up s1).up s2
      refine ⟨_, rfl, _, 0, _, v2, rfl, atI_nat (j := 0) rfl, _, rfl, _, 1, _, v2, rfl, atI_nat (j := 1) rfl, k, exy.symm, rfl, hk, fun H3 s3 => ⟨_, rfl, iteT ?_⟩⟩
      have v3 := v2.up s3
      refine ⟨_, rfl, _, 0, _, v3, rfl, atI_nat (j := 0) rfl, _, rfl, _, 1, _, v3, rfl, atI_nat (j := 1) rfl, by show 2 ≤ sizeLine; decide, fun t ht => ?_⟩
      refine q t _ (same_ch ((s1.trans s2).trans s3) (((s1.trans s2).trans s3).free ht)) ?_
      rw [exy]
      exact upd_same
theorem scIsListing : FnScope ["thing", "names", "entry", "one", "other"] ["thing"] (defScope sIsListing) := ⟨rfl, rfl, rfl, by decide +kernel, rfl, by decide +kernel, by decide +kernel⟩
theorem ok_isListing {f fE : Addr} {fd fdE : FuncData} (F : Fun K "is_listing" "is_listing" sIsListing f fd) (T0 : TPk mg) (aIsEntry : At K mg "is_entry" fE fdE ["thing"]) (GIsEntry : FnOk P w K mg base CX0 2 fE fdE ["thing"] spIsEntry) : FnOk P w K mg base CX0 3 f fd ["thing"] spIsListing := by
  have T := T0.b
  obtain ⟨t1, mSTROKE⟩ := T0.STROKE
  refine F.ok scIsListing (fun vs H Q E h => ?_) (fun cdv A outer s H vs Q E hr h => ?_)
  · obtain ⟨v, l, rfl, _⟩ := h
    rfl
  · obtain ⟨v, l, rfl, hv, hl, k⟩ := h
    refine ⟨_, pss_cons (ps_if (PW.pt (pw_or (pt_not (pt_val (pe_callB isi_LT (by rfl) T.isinstance (by decide +kernel) (pa_cons (pv 0) (pa_cons (pe_tup (pa_cons (pe_bltn (v := .ty "list") (by rfl) T.list (by decide +kernel) rfl) (pa_cons (pe_bltn (v := .ty "tuple") (by rfl) T.tuple (by decide +kernel) rfl) pa_nil))) pa_nil))))) (pw_or1 (pt_not (pt_val (pe_callB (cr_all rfl) (by rfl) T.all boot_all (pa_cons (pe_lc (own := [("entry", 2)]) (g := gName 2) (tt := tYes) rfl scIsListing.nd (pi_seqv (pv 0)) (blkOk_by (own := [("entry", 2)]) (N := ["thing", "names", "entry", "one", "other"]) (sc := defScope sIsListing) (by decide +kernel)) (fun _ _ _ _ _ => (pg_name (i := 2) scIsListing.nd rfl (Or.inl rfl))) (fun _ _ _ _ _ => pts_nil) (fun _ _ _ _ _ => (by exact (pe_call GIsEntry (hr.mono (by decide)) rfl aIsEntry.m aIsEntry.k aIsEntry.b .nil pass0 (pa_cons (pv 2) pa_nil))))) pa_nil))))))) (pss_one (ps_ret pe_bl)) (pss_nil))
            (pss_cons (ps_setLc (i := 1) (own := [("entry", 2)]) (g := gName 2) (tt := tYes) rfl scIsListing.nd rfl rfl (sw_true rfl rfl rfl (by decide +kernel)) (pi_seqv (pv 0)) (blkOk_by (own := [("entry", 2)]) (N := ["thing", "names", "entry", "one", "other"]) (sc := defScope sIsListing) (by decide +kernel)) (fun _ _ _ _ _ => (pg_name (i := 2) scIsListing.nd rfl (Or.inl rfl))) (fun _ _ _ _ _ => pts_nil) (fun _ _ _ _ _ => (by exact (pe_bmK K rfl PySem.F.plainAttrs_str PySem.F.slot_str_removesuffix PySem.F.type_str_removesuffix mt_removesuffix (pv 2) (pa_cons (pe_glob (v := .str "/") rfl mSTROKE ⟨_, rfl⟩) pa_nil)))))
            (pss_one (ps_ret (pe_callB (cr_all rfl) (by rfl) T.all boot_all (pa_cons (pe_lc (own := [("one", 3), ("other", 4)]) (g := gTup K 2 (gCons (gName 3) (gCons (gName 4) gNil))) (tt := tYes) rfl scIsListing.nd (pi_zip (by rfl) T.zip (pa_cons (pv 1) (pa_cons (pe_slice sl_list (pv 1) (po_some pe_int) po_none) pa_nil))) (blkOk_by (own := [("one", 3), ("other", 4)]) (N := ["thing", "names", "entry", "one", "other"]) (sc := defScope sIsListing) (by decide +kernel)) (fun _ _ _ _ _ => (pg_tupK (K0 := K) rfl rfl (pgs_cons (pg_name (i := 3) scIsListing.nd rfl (Or.inl rfl)) (pgs_cons (pg_name (i := 4) scIsListing.nd rfl (Or.inl rfl)) pgs_nil)))) (fun _ _ _ _ _ => pts_nil) (fun _ _ _ _ _ => (by exact (pe_cmpR op_lt_str (pv 3) (pv 4) (nomark _))))) pa_nil))))), ?_⟩
    have hs : l.length < 1000000 := Nat.lt_of_le_of_lt hl.2.2 (by decide)
    have at1 : (l.all fun _ => true) = true := List.all_eq_true.mpr fun _ _ => rfl
    refine ⟨_, rfl, by show 2 ≤ sizeLine; decide, fun tp ht => ⟨v, tp, true, rfl, upd_same, .inl ⟨rfl, _, hv.up (same_mk ht)⟩, _, rfl, iteF ?_⟩⟩
    refine all_row l entV (fun _ => true) rfl (hv.up (same_mk ht)) hs ?_ ?_
    · intro e he H2 s2 Q1 k1
      exact ⟨_, rfl, e.1, e.2, rfl, hl.1 e he, k1⟩
    intro H1 s1
    rw [at1]
    refine ⟨_, rfl, iteF ?_⟩
    have sa := (same_mk ht).trans s1
    refine set_row l entV (fun e => .str e.1) rfl (hv.up sa) hs ?_ ?_
    · intro e he H2 s2 Q1 k1
      refine ⟨_, rfl, rfl, ent e.1 e.2, "/", rfl, rfl, ?_, ?_⟩
      · have h8 := (hl.1 e he).2.1
        refine Nat.le_trans (show (ent e.1 e.2).length ≤ 9 from ?_) (by decide)
        rw [len_tl, tl_ent, List.length_append, ← len_tl]
        cases e.2 <;> simp <;> omega
      · rw [rms_ent (hl.1 e he)]
        exact k1 H2 (Same.refl H2)
    intro D H2 s2 hD hD2
    refine ⟨_, rfl, _, rfl, 1, rfl, D, _, rfl, SqL.of hD2, fun p hp => ?_⟩
    have hD3 := same_mk (o := .lst (cutV (l.map fun e => V.str e.1) (some 1) none)) hp _ _ hD2
    refine ⟨D, p, _, _, rfl, SqL.of hD3, SqL.of upd_same, fun D2 hD2' => ?_⟩
    rw [cut_1] at hD2' ⊢
    rw [cut_1] at hD3
    have le : (List.replicate (min (l.map fun e => V.str e.1).length ((l.map fun e => V.str e.1).drop 1).length) (V.bl true)).length = min (l.map fun e => V.str e.1).length ((l.map fun e => V.str e.1).drop 1).length := List.length_replicate
    refine lcW2 (walk_zip rfl) (by decide) _ le ?_ hD2' (fun H' s' => ⟨s'.seq (SqL.of hD3), s'.seq (SqL.of upd_same)⟩) ?_ ?_
    · rw [List.length_map]
      omega
    · intro m x x' y H4 hy ex ex' s4 Q1 k1
      obtain ⟨e1, he1, rfl⟩ : ∃ e, l[m]? = some e ∧ x = .str e.1 := by
        rw [List.getElem?_map] at ex
        cases q : l[m]? with
        | none => rw [q] at ex; cases ex
        | some e => rw [q] at ex; cases ex; exact ⟨e, rfl, rfl⟩
      obtain ⟨e2, he2, rfl⟩ : ∃ e, l[m + 1]? = some e ∧ x' = .str e.1 := by
        rw [List.getElem?_drop, List.getElem?_map, Nat.add_comm] at ex'
        cases q : l[m + 1]? with
        | none => rw [q] at ex'; cases ex'
        | some e => rw [q] at ex'; cases ex'; exact ⟨e, rfl, rfl⟩
      have yt : y = .bl true := by
        have := List.mem_of_getElem? hy
        exact (List.mem_replicate.mp this).2
      subst yt
      refine ⟨_, rfl, _, rfl, e1.1, e2.1, rfl, rfl, ?_⟩
      have lt : e1.1.cps.toList < e2.1.cps.toList := by
        have pw := hl.2.1
        rw [List.pairwise_iff_getElem] at pw
        obtain ⟨h1, g1⟩ := List.getElem?_eq_some_iff.mp he1
        obtain ⟨h2, g2⟩ := List.getElem?_eq_some_iff.mp he2
        have := pw m (m + 1) (by rw [List.length_map]; exact h1) (by rw [List.length_map]; exact h2) (Nat.lt_succ_self m)
        rw [List.getElem_map, List.getElem_map, g1, g2] at this
        exact this
      rw [decide_eq_true lt]
      exact k1 H4 (Same.refl H4)
    · intro H5 s5 hD5
      refine all_of (List.replicate (min (l.map fun e => V.str e.1).length ((l.map fun e => V.str e.1).drop 1).length) true) id (by rw [hD5, List.map_replicate]; rfl) ?_
      have ar : ∀ n, (List.replicate n true).all id = true := fun n => List.all_eq_true.mpr fun b hb => (List.mem_replicate.mp hb).2
      rw [ar]
      exact k H5 ((sa.trans s2).trans ((same_mk hp).trans s5))
def strD (l : List Str) : PyData := .tuple (l.map .str)
abbrev Okz (z : Str) : Prop := PyData.strOk z = true
theorem okz_of {z : Str} (h : ∀ c ∈ tl z, c < 1114112) : Okz z := by
  show (z.cps.all fun c => decide (c < 1114112)) = true
  rw [Array.all_eq_true_iff_forall_mem]
  intro c hc
  exact decide_eq_true (h c (Array.mem_toList_iff.mpr hc))
theorem jl_small : ∀ {p : List Str}, Nms p → ∀ c ∈ jl p, c < 128
  | [], _ => by intro c hc; cases hc
  | [y], h => fun c hc => by
    have := (h y List.mem_cons_self).2.2 c hc
    omega
  | y :: z :: r, h => fun c hc => by
    have e : jl (y :: z :: r) = tl y ++ ([47] ++ jl (z :: r)) := rfl
    rw [e] at hc
    rcases List.mem_append.mp hc with q | q
    · have := (h y List.mem_cons_self).2.2 c q
      omega
    · rcases List.mem_append.mp q with q | q
      · rw [List.mem_singleton.mp q]
        decide
      · exact jl_small h.tail c q
theorem okz_js {p : List Str} (h : Nms p) : Okz (js p) := okz_of fun c hc => by
  rw [tl_js] at hc
  have := jl_small h c hc
  omega
theorem okz_nm {z : Str} (h : IsNm z) : Okz z := okz_of fun c hc => by
  have := h.2.2 c hc
  omega
theorem okz_ent {z : Str} (h : IsNm z) (b : Bool) : Okz (ent z b) := okz_of fun c hc => by
  rw [tl_ent] at hc
  rcases List.mem_append.mp hc with q | q
  · have := h.2.2 c q
    omega
  · cases b
    · cases q
    · rw [List.mem_singleton.mp q]
      decide
theorem lay_strs : ∀ l : List Str, (∀ z ∈ l, Okz z) → PyData.canLayAll0 (l.map .str) = true
  | [], _ => by simp [PyData.canLayAll0]
  | z :: r, h => by
    have h1 : PyData.strOk z = true := h z List.mem_cons_self
    simp [PyData.canLayAll0, PyData.canLay0, lay_strs r fun y hy => h y (List.mem_cons_of_mem _ hy), h1]
theorem dep_strs : ∀ l : List Str, PyData.depthAll (l.map .str) ≤ 1
  | [] => by simp [PyData.depthAll]
  | z :: r => by
    have := dep_strs r
    simp only [List.map_cons, PyData.depthAll, PyData.depth]
    omega
theorem shaped_strs (l : List Str) (hl : ∀ z ∈ l, Okz z) : SeqAt.shaped (strD l) = true := by
  have h := dep_strs l
  have h2 : PyData.depth (.tuple (l.map .str)) ≤ 64 := by
    simp only [PyData.depth]
    omega
  show (PyData.canLay0 (.tuple (l.map .str)) && decide (PyData.depth (.tuple (l.map .str)) ≤ 64)) = true
  rw [Bool.and_eq_true]
  exact ⟨by simp only [PyData.canLay0]; exact lay_strs l hl, decide_eq_true h2⟩
theorem dp_strs {H : Hp} : ∀ l : List Str, DpAll K H (l.map V.str) (l.map PyData.str)
  | [] => .nil
  | z :: r => .cons (.str z) (dp_strs r)
theorem eqv_str2 (a b c d : Str) : PyData.eqv (strD [a, b]) (strD [c, d]) = ((a == c) && (b == d)) := by
  simp [strD, PyData.eqv, PyData.eqvAll]
theorem scCanShow : FnScope ["look", "answer", "word"] ["look", "answer"] (defScope sCanShow) := ⟨rfl, rfl, rfl, by decide +kernel, rfl, by decide +kernel, by decide +kernel⟩
theorem ok_canShow {f fL : Addr} {fd fdL : FuncData} (F : Fun K "can_show" "can_show" sCanShow f fd) (T0 : TPk mg) (aIsListing : At K mg "is_listing" fL fdL ["thing"]) (GIsListing : FnOk P w K mg base CX0 3 fL fdL ["thing"] spIsListing) : FnOk P w K mg base CX0 4 f fd ["look", "answer"] spCanShow := by
  have T := T0.b
  obtain ⟨t1, mROOT⟩ := T0.ROOT
  refine F.ok scCanShow (fun vs H Q E h => ?_) (fun cdv A outer s H vs Q E hr h => ?_)
  · obtain ⟨t, va, k, a, rfl, _⟩ := h
    rfl
  · have hu := hr.units
    obtain ⟨t, va, k, a, rfl, ht, ha, hk, ok, q⟩ := h
    refine ⟨_, pss_cons (ps_set (i := 2) scCanShow.nd rfl (Or.inl rfl) (pe_ix ix_tup (pv 0) pe_int (fun _ _ => rfl)))
            (pss_cons (ps_if (pt_cmp (pc_isN (pv 1))) (pss_one (ps_ret (pe_and (pe_cmpR op_ne (pv 2) pe_str (nomark _)) (pe_one (pe_cmpR (op_neD hu) (pv 0) (pe_tup (pa_cons pe_str (pa_cons (pe_glob (v := .str "") rfl mROOT ⟨_, rfl⟩) pa_nil))) (nomark _)))))) (pss_nil))
            (pss_cons (ps_if (pt_cmpR op_eq (pv 2) pe_str (nomark _)) (pss_one (ps_ret (pe_and (pe_call GIsListing (hr.mono (by decide)) rfl aIsListing.m aIsListing.k aIsListing.b .nil pass0 (pa_cons (pv 1) pa_nil)) (pe_one (pe_or (pe_cmpR op_gt (pe_callB call_len_row (by rfl) T.len PySem.boot_len (pa_cons (pv 1) pa_nil)) pe_int (nomark _)) (pe_one (pe_cmpR op_eq (pe_ix ix_tup (pv 0) pe_int (fun _ _ => rfl)) (pe_glob (v := .str "") rfl mROOT ⟨_, rfl⟩) (nomark _)))))))) (pss_nil))
            (pss_one (ps_ret (pe_callB call_isi (by rfl) T.isinstance (by decide +kernel) (pa_cons (pv 1) (pa_cons (pe_bltn (v := .ty "str") (by rfl) T.str (by decide +kernel) rfl) pa_nil))))))), ?_⟩
    have neD : ∀ (x y : Str) (p : Addr) (H2 : Hp), H2 t = some (.tup [.str x, .str y]) → H2 p = some (.tup [.str "list", .str ""]) → Okz y → (x = "list" → y ≠ "") → Okz x → ∀ Q1 : VK, Q1 (.bl true) H2 → rNeD K (.ref t) (.ref p) H2 Q1 := fun x y p H2 e1 e2 oy ne ox Q1 q1 => by
      refine ⟨strD [x, y], strD ["list", ""], .tup (SqT.of e1) (dp_strs [x, y]), .tup (SqT.of e2) (dp_strs ["list", ""]), shaped_strs _ (by simpa using ⟨ox, oy⟩), shaped_strs _ (by decide +kernel), ?_⟩
      rw [eqv_str2]
      have : ((x == "list") && (y == "")) = false := by
        rw [Bool.and_eq_false_iff]
        by_cases e : x = "list"
        · exact .inr (beq_eq_false_iff_ne.mpr (ne e))
        · exact .inl (beq_eq_false_iff_ne.mpr e)
      rw [this]
      exact q1
    cases k with
    | rd p =>
      refine ⟨_, rfl, t, _, 0, _, rfl, rfl, SqT.of ht, atI_nat (j := 0) rfl, ?_⟩
      cases a with
      | no =>
        cases (show va = .non from ha)
        refine ⟨_, rfl, _, rfl, iteT ⟨_, rfl, rfl, _, rfl, iteT ⟨_, rfl, by show 2 ≤ sizeLine; decide, fun p hp => ?_⟩⟩⟩
        exact neD _ _ p _ (same_mk hp _ _ ht) upd_same (okz_js hk.2.1) (fun z => absurd z (by decide +kernel)) (by decide +kernel) _ (q _ (same_mk hp))
      | tx z =>
        cases (show va = .str z from ha)
        exact ⟨_, rfl, _, rfl, iteN (by intro z; cases z) ⟨_, rfl, rfl, _, rfl, iteN (by decide +kernel) ⟨_, rfl, _, _, .type "str", .type "str", true, rfl, .ty "str", .base (.str _), kit_ty (by decide +kernel), q H (Same.refl H)⟩⟩⟩
      | es l => exact ok.elim
    | ls p =>
      refine ⟨_, rfl, t, _, 0, _, rfl, rfl, SqT.of ht, atI_nat (j := 0) rfl, ?_⟩
      cases a with
      | no =>
        cases (show va = .non from ha)
        refine ⟨_, rfl, _, rfl, iteT ⟨_, rfl, rfl, _, rfl, iteT ⟨_, rfl, by show 2 ≤ sizeLine; decide, fun p hp => ?_⟩⟩⟩
        exact neD _ _ p _ (same_mk hp _ _ ht) upd_same (okz_js hk.1) (fun _ => js_ne hk.1 ok) (by decide +kernel) _ (q _ (same_mk hp))
      | tx z => exact ok.elim
      | es l =>
        obtain ⟨b, rfl, hb⟩ := (show RowAt H va (l.map entV) from ha)
        refine ⟨_, rfl, _, rfl, iteN (by intro z; cases z) ⟨_, rfl, rfl, _, rfl, iteY rfl ⟨_, rfl, .ref b, l, rfl, ⟨b, rfl, hb⟩, ok.1, fun H1 s1 => ⟨_, rfl, iteT ⟨_, rfl, .ref b, _, rfl, RowAt.up ⟨b, rfl, hb⟩ s1, _, _, rfl, rfl, _, rfl, ?_⟩⟩⟩⟩⟩
        rw [List.length_map]
        by_cases e : l = []
        · subst e
          refine iteN (by decide) ⟨_, rfl, t, _, 1, _, rfl, rfl, SqT.of (s1 _ _ ht), atI_nat (j := 1) rfl, rfl, ?_⟩
          have pe : p = [] := ok.2.resolve_left (fun z => z rfl)
          subst pe
          exact q H1 s1
        · have := List.length_pos_iff.mpr e
          refine iteY (by omega) ?_
          exact q H1 s1
    | se n =>
      refine ⟨_, rfl, t, _, 0, _, rfl, rfl, SqT.of ht, atI_nat (j := 0) rfl, ?_⟩
      cases a with
      | no =>
        cases (show va = .non from ha)
        refine ⟨_, rfl, _, rfl, iteT ⟨_, rfl, rfl, _, rfl, iteT ⟨_, rfl, by show 2 ≤ sizeLine; decide, fun p hp => ?_⟩⟩⟩
        exact neD _ _ p _ (same_mk hp _ _ ht) upd_same (okz_nm hk) (fun z => absurd z (by decide +kernel)) (by decide +kernel) _ (q _ (same_mk hp))
      | tx z =>
        cases (show va = .str z from ha)
        exact ⟨_, rfl, _, rfl, iteN (by intro z; cases z) ⟨_, rfl, rfl, _, rfl, iteN (by decide +kernel) ⟨_, rfl, _, _, .type "str", .type "str", true, rfl, .ty "str", .base (.str _), kit_ty (by decide +kernel), q H (Same.refl H)⟩⟩⟩
      | es l => exact ok.elim
    | tl =>
      refine ⟨_, rfl, t, _, 0, _, rfl, rfl, SqT.of ht, atI_nat (j := 0) rfl, ?_⟩
      cases a with
      | no => exact ok.elim
      | tx z =>
        cases (show va = .str z from ha)
        exact ⟨_, rfl, _, rfl, iteN (by intro z; cases z) ⟨_, rfl, rfl, _, rfl, iteN (by decide +kernel) ⟨_, rfl, _, _, .type "str", .type "str", true, rfl, .ty "str", .base (.str _), kit_ty (by decide +kernel), q H (Same.refl H)⟩⟩⟩
      | es l => exact ok.elim
theorem scAsSight : FnScope ["thing", "look"] ["thing"] (defScope sAsSight) := ⟨rfl, rfl, rfl, by decide +kernel, rfl, by decide +kernel, by decide +kernel⟩
theorem ok_asSight {f fR fL fS : Addr} {fd fdR fdL fdS : FuncData} (F : Fun K "as_sight" "as_sight" sAsSight f fd) (T : TB mg) (aRow : At K mg "is_row" fR fdR ["thing", "size"]) (aAsLook : At K mg "as_look" fL fdL ["thing"]) (aCanShow : At K mg "can_show" fS fdS ["look", "answer"])
    (GRow : FnOk P w K mg base CX0 1 fR fdR ["thing", "size"] spRow) (GAsLook : FnOk P w K mg base CX0 5 fL fdL ["thing"] spAsLook) (GCanShow : FnOk P w K mg base CX0 4 fS fdS ["look", "answer"] spCanShow) : FnOk P w K mg base CX0 6 f fd ["thing"] spAsSight := by
  refine F.ok scAsSight (fun vs H Q E h => ?_) (fun cdv A outer s H vs Q E hr h => ?_)
  · obtain ⟨v, k, rfl, _⟩ := h
    rfl
  · obtain ⟨v, ⟨k, a⟩, rfl, ⟨vk, va, hv, hk, ha⟩, ⟨ok1, ok2⟩, q⟩ := h
    refine ⟨_, pss_cons (ps_if (pt_not (pt_val (pe_call GRow (hr.mono (by decide)) rfl aRow.m aRow.k aRow.b .nil pass0 (pa_cons (pv 0) (pa_cons pe_int pa_nil))))) (pss_one (ps_ret pe_non)) (pss_nil))
            (pss_cons (ps_set (i := 1) scAsSight.nd rfl (Or.inl rfl) (pe_call GAsLook (hr.mono (by decide)) rfl aAsLook.m aAsLook.k aAsLook.b .nil pass0 (pa_cons (pe_ix ix_row (pv 0) pe_int (fun _ _ => rfl)) pa_nil)))
            (pss_cons (ps_if (PW.pt (pw_or (pt_cmp (pc_isN (pv 1))) (pw_or1 (pt_not (pt_val (pe_call GCanShow (hr.mono (by decide)) rfl aCanShow.m aCanShow.k aCanShow.b .nil pass0 (pa_cons (pv 1) (pa_cons (pe_ix ix_row (pv 0) pe_int (fun _ _ => rfl)) pa_nil)))))))) (pss_one (ps_ret pe_non)) (pss_nil))
            (pss_cons (ps_if (pt_val (pe_callB isi_LT (by rfl) T.isinstance (by decide +kernel) (pa_cons (pe_ix ix_row (pv 0) pe_int (fun _ _ => rfl)) (pa_cons (pe_tup (pa_cons (pe_bltn (v := .ty "list") (by rfl) T.list (by decide +kernel) rfl) (pa_cons (pe_bltn (v := .ty "tuple") (by rfl) T.tuple (by decide +kernel) rfl) pa_nil))) pa_nil)))) (pss_one (ps_ret (pe_tup (pa_cons (pv 1) (pa_cons (pe_callTy call_tup_row (by rfl) T.tuple (by decide +kernel) (pa_cons (pe_ix ix_row (pv 0) pe_int (fun _ _ => rfl)) pa_nil)) pa_nil))))) (pss_nil))
            (pss_one (ps_ret (pe_tup (pa_cons (pv 1) (pa_cons (pe_ix ix_row (pv 0) pe_int (fun _ _ => rfl)) pa_nil)))))))), ?_⟩
    refine ⟨_, rfl, v, _, 2, rfl, hv, fun H1 s1 => ⟨_, rfl, iteF ?_⟩⟩
    have v1 := hv.up s1
    refine ⟨_, rfl, _, 0, _, v1, rfl, atI_nat (j := 0) rfl, vk, k, rfl, RowAt.up hk s1, ok1, fun t H2 s2 ht => ?_⟩
    have v2 := v1.up s2
    have a2 := (ha.up s1).up s2
    refine ⟨_, rfl, _, rfl, iteN (by intro z; cases z) ⟨_, rfl, _, rfl, _, 1, _, v2, rfl, atI_nat (j := 1) rfl, t, va, k, a, rfl, ht, a2, ok1, ok2, fun H3 s3 => ⟨_, rfl, iteF ?_⟩⟩⟩
    have v3 := v2.up s3
    have a3 := a2.up s3
    have ht3 := s3 _ _ ht
    have s123 := (s1.trans s2).trans s3
    have fin : ∀ (H5 : Hp), Same H3 H5 → AnAt H5 va a → (∀ p, H5 p = none → Q (.ref p) (upd H5 p (.tup [.ref t, va]))) := fun H5 s5 hA p hp => by
      refine q (.ref p) _ (same_ch (s123.trans s5) ((s123.trans s5).free hp)) ⟨p, t, va, rfl, upd_same, same_mk hp _ _ (s5 _ _ ht3), hA.up (same_mk hp)⟩
    refine ⟨_, rfl, _, 1, _, v3, rfl, atI_nat (j := 1) rfl, by show 2 ≤ sizeLine; decide, fun tp htp => ?_⟩
    have sp := same_mk (o := .tup [.ty "list", .ty "tuple"]) htp
    cases a with
    | no =>
      cases (show va = .non from ha)
      exact ⟨_, tp, false, rfl, upd_same, .inr ⟨rfl, .inl rfl⟩, _, rfl, iteF ⟨_, rfl, _, rfl, _, 1, _, v3.up sp, rfl, atI_nat (j := 1) rfl, by show 2 ≤ sizeLine; decide, fun p hp => fin _ sp rfl p hp⟩⟩
    | tx z =>
      cases (show va = .str z from ha)
      exact ⟨_, tp, false, rfl, upd_same, .inr ⟨rfl, .inr (.inl ⟨z, rfl⟩)⟩, _, rfl, iteF ⟨_, rfl, _, rfl, _, 1, _, v3.up sp, rfl, atI_nat (j := 1) rfl, by show 2 ≤ sizeLine; decide, fun p hp => fin _ sp rfl p hp⟩⟩
    | es l =>
      refine ⟨_, tp, true, rfl, upd_same, .inl ⟨rfl, _, RowAt.up a3 sp⟩, _, rfl, iteT ⟨_, rfl, _, rfl, _, 1, _, v3.up sp, rfl, atI_nat (j := 1) rfl, va, l.map entV, rfl, RowAt.up a3 sp, fun b H4 s4 hb => ⟨by show 2 ≤ sizeLine; decide, fun p hp => ?_⟩⟩⟩
      have s34 := sp.trans s4
      exact q (.ref p) _ (same_ch (s123.trans s34) ((s123.trans s34).free hp)) ⟨p, t, .ref b, rfl, upd_same, same_mk hp _ _ (s34 _ _ ht3), ⟨b, rfl, same_mk hp _ _ hb⟩⟩
end
end G

set_option maxHeartbeats 3900000
namespace G
open PySem PySem.Spec PyProof.Rows L2 TL
open CB
/-! sights as data, and what follows from what -/
def lkS : Lk → List Str
  | .rd p => ["read", js p]
  | .ls p => ["list", js p]
  | .se n => ["setting", n]
  | .tl => ["tool"]
theorem lkV_S (k : Lk) : lkV k = (lkS k).map V.str := by cases k <;> rfl
def lkD (k : Lk) : PyData := strD (lkS k)
def anD : An → PyData
  | .no => .none
  | .tx z => .str z
  | .es l => strD (l.map fun e => ent e.1 e.2)
def siD (s : Lk × An) : PyData := .tuple [lkD s.1, anD s.2]
def LkW : Lk → Prop
  | .rd p => Nms p ∧ p.length ≤ 100
  | .ls p => Nms p ∧ p.length ≤ 100
  | .se n => IsNm n
  | .tl => True
def AnW : An → Prop
  | .no => True
  | .tx z => Okz z
  | .es l => (∀ e ∈ l, IsNm e.1) ∧ l.length ≤ 1000
def SiW (s : Lk × An) : Prop := LkW s.1 ∧ AnW s.2
theorem LkOk.w {k : Lk} (h : LkOk k) : LkW k := by
  cases k with
  | rd p => exact ⟨h.2.1, Nat.le_trans h.2.2 (by decide)⟩
  | ls p => exact ⟨h.1, Nat.le_trans h.2 (by decide)⟩
  | se n => exact h
  | tl => trivial
theorem lkS_ok {k : Lk} (h : LkW k) : ∀ z ∈ lkS k, Okz z := by
  intro z hz
  cases k with
  | rd p =>
    rcases List.mem_cons.mp hz with e | e
    · rw [e]
      decide +kernel
    · rw [List.mem_singleton.mp e]
      exact okz_js h.1
  | ls p =>
    rcases List.mem_cons.mp hz with e | e
    · rw [e]
      decide +kernel
    · rw [List.mem_singleton.mp e]
      exact okz_js h.1
  | se n =>
    rcases List.mem_cons.mp hz with e | e
    · rw [e]
      decide +kernel
    · rw [List.mem_singleton.mp e]
      exact okz_nm h
  | tl =>
    rw [List.mem_singleton.mp hz]
    decide +kernel
theorem lay_strD (l : List Str) (h : ∀ z ∈ l, Okz z) : (strD l).canLay0 = true := by
  simp only [strD, PyData.canLay0]
  exact lay_strs l h
theorem dep_strD (l : List Str) : (strD l).depth ≤ 2 := by
  have := dep_strs l
  simp only [strD, PyData.depth]
  omega
theorem anD_lay {a : An} (h : AnW a) : (anD a).canLay0 = true := by
  cases a with
  | no => simp [anD, PyData.canLay0]
  | tx z =>
    have h2 : PyData.strOk z = true := h
    simp [anD, PyData.canLay0, h2]
  | es l =>
    refine lay_strD _ fun z hz => ?_
    obtain ⟨e, he, rfl⟩ := List.mem_map.mp hz
    exact okz_ent (h.1 e he) e.2
theorem anD_dep (a : An) : (anD a).depth ≤ 2 := by
  cases a with
  | no => simp [anD, PyData.depth]
  | tx z => simp [anD, PyData.depth]
  | es l => exact dep_strD _
theorem shaped_mk {d : PyData} (h1 : d.canLay0 = true) (h2 : d.depth ≤ 64) : SeqAt.shaped d = true := by
  show (d.canLay0 && decide (d.depth ≤ 64)) = true
  rw [Bool.and_eq_true]
  exact ⟨h1, decide_eq_true h2⟩
theorem anD_shaped {a : An} (h : AnW a) : SeqAt.shaped (anD a) = true := shaped_mk (anD_lay h) (Nat.le_trans (anD_dep a) (by decide))
theorem lkD_shaped {k : Lk} (h : LkW k) : SeqAt.shaped (lkD k) = true := shaped_strs _ (lkS_ok h)
theorem siD_lay {s : Lk × An} (h : SiW s) : (siD s).canLay0 = true := by
  have h1 : (lkD s.1).canLay0 = true := lay_strD _ (lkS_ok h.1)
  have h2 := anD_lay h.2
  simp [siD, PyData.canLay0, PyData.canLayAll0, h1, h2]
theorem siD_dep (s : Lk × An) : (siD s).depth ≤ 3 := by
  have h1 : (lkD s.1).depth ≤ 2 := dep_strD _
  have h2 := anD_dep s.2
  simp only [siD, PyData.depth, PyData.depthAll]
  omega
theorem siD_shaped {s : Lk × An} (h : SiW s) : SeqAt.shaped (siD s) = true := shaped_mk (siD_lay h) (Nat.le_trans (siD_dep s) (by decide))
section
variable {K : PySem.W.Frag} {H : Hp}
theorem lk_dp {u : Addr} {k : Lk} (h : H u = some (.tup (lkV k))) : Dp K H (.ref u) (lkD k) := .tup (SqT.of (by rw [h, lkV_S])) (dp_strs (lkS k))
theorem an_dp {v : V} {a : An} (h : AnAt H v a) : Dp K H v (anD a) := by
  cases a with
  | no =>
    cases (show v = .non from h)
    exact .non
  | tx z =>
    cases (show v = .str z from h)
    exact .str z
  | es l =>
    obtain ⟨b, rfl, hb⟩ := h
    refine .tup (SqT.of (xs := (l.map fun e => ent e.1 e.2).map V.str) ?_) (dp_strs _)
    rw [hb, List.map_map]
    rfl
theorem si_dp {v : V} {s : Lk × An} (h : SiAt H v s) : Dp K H v (siD s) := by
  obtain ⟨t, u, va, rfl, h1, h2, h3⟩ := h
  exact .tup (SqT.of h1) (.cons (lk_dp h2) (.cons (an_dp h3) .nil))
end
theorem eqv_strs : ∀ l m : List Str, PyData.eqvAll (l.map .str) (m.map .str) = decide (l = m)
  | [], [] => by simp [PyData.eqvAll]
  | [], z :: m => by simp [PyData.eqvAll]
  | z :: l, [] => by simp [PyData.eqvAll]
  | y :: l, z :: m => by
    have ih := eqv_strs l m
    simp only [List.map_cons, PyData.eqvAll, PyData.eqv, ih]
    by_cases e : y = z
    · subst e
      simp
    · have : (y == z) = false := beq_eq_false_iff_ne.mpr e
      simp [this, e]
theorem eqv_strD (l m : List Str) : PyData.eqv (strD l) (strD m) = decide (l = m) := by
  simp only [strD, PyData.eqv]
  exact eqv_strs l m
theorem lkS_inj {k k' : Lk} (h : LkW k) (h' : LkW k') (e : lkS k = lkS k') : k = k' := by
  cases k <;> cases k' <;> simp only [lkS, List.cons.injEq, and_true, reduceCtorEq, and_false] at e
  · rw [js_inj h.1 h'.1 e.2]
  · exact absurd e.1 (by decide +kernel)
  · exact absurd e.1 (by decide +kernel)
  · exact absurd e.1 (by decide +kernel)
  · rw [js_inj h.1 h'.1 e.2]
  · exact absurd e.1 (by decide +kernel)
  · exact absurd e.1 (by decide +kernel)
  · exact absurd e.1 (by decide +kernel)
  · rw [e.2]
  · rfl
theorem ents_inj : ∀ {l m : List (Str × Bool)}, (∀ e ∈ l, IsNm e.1) → (∀ e ∈ m, IsNm e.1) → (l.map fun e => ent e.1 e.2) = (m.map fun e => ent e.1 e.2) → l = m
  | [], [], _, _, _ => rfl
  | [], _ :: _, _, _, e => by simp at e
  | _ :: _, [], _, _, e => by simp at e
  | (a, b) :: l, (c, d) :: m, hl, hm, e => by
    simp only [List.map_cons, List.cons.injEq] at e
    obtain ⟨e1, e2⟩ := ent_inj (hl _ List.mem_cons_self) (hm _ List.mem_cons_self) e.1
    rw [ents_inj (fun x hx => hl x (List.mem_cons_of_mem _ hx)) (fun x hx => hm x (List.mem_cons_of_mem _ hx)) e.2]
    simp only at e1
    rw [e1, e2]
theorem eqv_lk {k k' : Lk} (h : LkW k) (h' : LkW k') : PyData.eqv (lkD k) (lkD k') = decide (k = k') := by
  show PyData.eqv (strD _) (strD _) = _
  rw [eqv_strD, decide_eq_decide]
  exact ⟨lkS_inj h h', fun e => by rw [e]⟩
theorem eqv_an {a a' : An} (h : AnW a) (h' : AnW a') : PyData.eqv (anD a) (anD a') = decide (a = a') := by
  cases a <;> cases a' <;> simp only [anD, strD, PyData.eqv]
  · simp
  · simp
  · simp
  · simp
  · rename_i y z
    by_cases e : y = z
    · subst e
      simp
    · have : (y == z) = false := beq_eq_false_iff_ne.mpr e
      simp [this, e]
  · simp
  · simp
  · simp
  · rename_i l m
    refine (eqv_strs _ _).trans ?_
    rw [decide_eq_decide]
    exact ⟨fun e => by rw [ents_inj h.1 h'.1 e], fun e => by
      cases e
      rfl⟩
theorem eqv_si {s s' : Lk × An} (h : SiW s) (h' : SiW s') : PyData.eqv (siD s) (siD s') = decide (s = s') := by
  simp only [siD, PyData.eqv, PyData.eqvAll, eqv_lk h.1 h'.1, eqv_an h.2 h'.2]
  obtain ⟨k, a⟩ := s
  obtain ⟨k', a'⟩ := s'
  by_cases e1 : k = k' <;> by_cases e2 : a = a' <;> simp [e1, e2]
end G

set_option maxHeartbeats 3900000
namespace G
open PySem PySem.Spec PyProof.Rows L2 TL
open C8 (pss_cut tCut pe_gc)
open CB
abbrev sFollows : Stmt := top 14
abbrev sLostF : Stmt := top 15
abbrev sLostN : Stmt := top 16
abbrev sBarE : Stmt := top 17
abbrev sDenies : Stmt := top 18
abbrev sContr : Stmt := top 19
abbrev sContrE : Stmt := top 20
abbrev sBars : Stmt := top 33
abbrev sPlain : Stmt := top 34
/-! what follows from what, what bars what: the mirror -/
def lostF (q : List Str) : Lk → Bool
  | .rd p => ben p q || ben q p
  | .ls p => decide (p = q) || ben p q
  | _ => false
/-- (what is asked for is a file, the path lost) -/
def lostP (q : List Str) (l : List (Str × Bool)) (w : Bool) (p : List Str) : Bool :=
  if ben p q = true then
    match p.drop q.length with
    | [] => true
    | n :: r => if (n, true) ∈ l then w && decide (r = []) else if (n, false) ∈ l then !w || !decide (r = []) else true
  else w && (decide (q = p) || ben q p)
def lostN (q : List Str) (l : List (Str × Bool)) : Lk → Bool
  | .rd p => lostP q l true p
  | .ls p => lostP q l false p
  | _ => false
def follL (s : Lk × An) (k : Lk) : Bool := match s with
  | (.rd _, .no) => false
  | (.rd q, _) => lostF q k
  | (.ls q, .no) => match k with
    | .rd p => ben p q
    | .ls p => ben p q
    | _ => false
  | (.ls q, .es l) => lostN q l k
  | _ => false
def follM (s : Lk × An) (s' : Lk × An) : Bool := decide (s = s') || match s' with
  | (.rd p, .no) => follL s (.rd p)
  | (.ls p, .no) => follL s (.ls p)
  | _ => false
def conE (p : List Str) (e : Str × Bool) : Lk × An := (if e.2 = true then .ls (p ++ [e.1]) else .rd (p ++ [e.1]), .no)
def con : Lk × An → List (Lk × An)
  | (.rd p, .tx _) => [(.rd p, .no)]
  | (.ls p, .es l) => l.map (conE p)
  | _ => []
def denM (s : Lk × An) (xs : List (Lk × An)) : Bool := xs.any (follM s)
def barsM (s s' : Lk × An) : Bool := if s.1 = s'.1 then !decide (s.2 = s'.2) else denM s (con s') || denM s' (con s)
/-- sights in a list -/
def SisL (H : Hp) (D : Addr) (ss : List (Lk × An)) : Prop := ∃ vs : List V, H D = some (.lst vs) ∧ vs.length = ss.length ∧ ∀ (i : Nat) (v : V) (s : Lk × An), vs[i]? = some v → ss[i]? = some s → SiAt H v s
def SiOk' (s : Lk × An) : Prop := SiOk s ∧ SiW s
def spLostF : Sp := fun vs H Q _ => ∃ q k u, vs = [.str (js q), .ref u] ∧ H u = some (.tup (lkV k)) ∧ Nms q ∧ q.length ≤ 100 ∧ LkW k ∧ ((∃ p, k = .rd p) ∨ ∃ p, k = .ls p) ∧ ∀ H', Same H H' → Q (.bl (lostF q k)) H'
def spLostN : Sp := fun vs H Q _ => ∃ q l k u a, vs = [.str (js q), .ref a, .ref u] ∧ H u = some (.tup (lkV k)) ∧ H a = some (.tup (l.map entV)) ∧ (∀ e ∈ l, IsNm e.1) ∧ Nms q ∧ q.length ≤ 100 ∧ LkW k ∧ ((∃ p, k = .rd p) ∨ ∃ p, k = .ls p) ∧ ∀ H', Same H H' → Q (.bl (lostN q l k)) H'
def spFollows : Sp := fun vs H Q _ => ∃ v v' s s', vs = [v, v'] ∧ SiAt H v s ∧ SiAt H v' s' ∧ SiOk' s ∧ SiW s' ∧ ∀ H', Same H H' → Q (.bl (follM s s')) H'
def spDenies : Sp := fun vs H Q _ => ∃ v D s ss, vs = [v, .ref D] ∧ SiAt H v s ∧ SiOk' s ∧ SisL H D ss ∧ ss.length ≤ 1000 ∧ (∀ x ∈ ss, SiW x) ∧ ∀ H', Same H H' → Q (.bl (denM s ss)) H'
def spContrE : Sp := fun vs H Q _ => ∃ p e, vs = [.str (js p), entV e] ∧ Nms p ∧ p.length ≤ 90 ∧ IsNm e.1 ∧ ∀ v H', Same H H' → SiAt H' v (conE p e) → Q v H'
def spContr : Sp := fun vs H Q _ => ∃ v s, vs = [v] ∧ SiAt H v s ∧ SiOk' s ∧ ∀ D H', Same H H' → SisL H' D (con s) → Q (.ref D) H'
def spBarE : Sp := fun vs H Q _ => ∃ v v' s s', vs = [v, v'] ∧ SiAt H v s ∧ SiAt H v' s' ∧ SiOk' s ∧ SiOk' s' ∧ ∀ H', Same H H' → Q (.bl (barsM s s')) H'
def spPlain : Sp := fun vs H Q _ => ∃ (v : V) (vs' : List V) (ss : List (Lk × An)), vs = [v] ∧ RowAt H v vs' ∧ vs'.length = ss.length ∧ ss.length ≤ 1000 ∧ (∀ (i : Nat) (x : V) (s : Lk × An), vs'[i]? = some x → ss[i]? = some s → SiIn H x s) ∧ (∀ s ∈ ss, SiOk s) ∧ ∀ D H', Same H H' → SisL H' D ss → Q (.ref D) H'
def spBars : Sp := fun vs H Q _ => ∃ v v' s s', vs = [v, v'] ∧ SiIn H v s ∧ SiIn H v' s' ∧ SiOk' s ∧ SiOk' s' ∧ ∀ H', Same H H' → Q (.bl (barsM s s')) H'
theorem SiAt.upT {H H' : Hp} {v : V} {s : Lk × An} (h : SiAt H v s) (t : TupS H H') : SiAt H' v s := by
  obtain ⟨a, u, va, e, h1, h2, h3⟩ := h
  refine ⟨a, u, va, e, t _ _ h1, t _ _ h2, ?_⟩
  cases q : s.2 with
  | no => rw [q] at h3; exact h3
  | tx z => rw [q] at h3; exact h3
  | es l =>
    rw [q] at h3
    obtain ⟨b, e, h⟩ := h3
    exact ⟨b, e, t _ _ h⟩
theorem in_ents {l : List (Str × Bool)} (hl : ∀ e ∈ l, IsNm e.1) {n : Str} (hn : IsNm n) (b : Bool) : inV (.str (ent n b)) (l.map entV) = decide ((n, b) ∈ l) := by
  have e : l.map entV = (l.map fun e => ent e.1 e.2).map V.str := by
    rw [List.map_map]
    rfl
  rw [e, inV_strs, decide_eq_decide]
  constructor
  · intro h
    obtain ⟨x, hx, e2⟩ := List.mem_map.mp h
    obtain ⟨e3, e4⟩ := ent_inj (hl x hx) hn e2
    rw [← e3, ← e4]
    exact hx
  · intro h
    exact List.mem_map.mpr ⟨_, h, rfl⟩
theorem flat_ents (l : List (Str × Bool)) : (l.map entV).all flatV = true := by
  rw [List.all_map, List.all_eq_true]
  intro x _
  rfl
section
variable {P : Program} {w : World} {K : PySem.W.Frag} {mg : Str → Option Value} {base : Heap}
theorem scLostF : FnScope ["file_path", "lost", "word", "path"] ["file_path", "lost"] (defScope sLostF) := ⟨rfl, rfl, rfl, by decide +kernel, rfl, by decide +kernel, by decide +kernel⟩
theorem ok_lostF {f fA fB : Addr} {fd fdA fdB : FuncData} (F : Fun K "lost_by_file" "lost_by_file" sLostF f fd) (aAt : At K mg "is_at_or_beneath" fA fdA ["path", "place"]) (aBen : At K mg "is_beneath" fB fdB ["path", "place"])
    (GAt : FnOk P w K mg base CX0 3 fA fdA ["path", "place"] spAt) (GBen : FnOk P w K mg base CX0 2 fB fdB ["path", "place"] spBen) : FnOk P w K mg base CX0 4 f fd ["file_path", "lost"] spLostF := by
  refine F.ok scLostF (fun vs H Q E h => ?_) (fun cdv A outer s H vs Q E hr h => ?_)
  · obtain ⟨q, k, u, rfl, _⟩ := h
    rfl
  · obtain ⟨q, k, u, rfl, hu', hq, hl, hk, hkk, fin⟩ := h
    refine ⟨_, pss_cons (ps_asg (pv 1) (pg_tup rfl (pgs_cons (pg_name (i := 2) scLostF.nd rfl (Or.inl rfl)) (pgs_cons (pg_name (i := 3) scLostF.nd rfl (Or.inl rfl)) pgs_nil))))
            (pss_cons (ps_if (pt_cmpR op_eq (pv 2) pe_str (nomark _)) (pss_one (ps_ret (pe_call GAt (hr.mono (by decide)) rfl aAt.m aAt.k aAt.b .nil pass0 (pa_cons (pv 3) (pa_cons (pv 0) pa_nil))))) (pss_nil))
            (pss_one (ps_ret (pe_or (pe_call GBen (hr.mono (by decide)) rfl aBen.m aBen.k aBen.b .nil pass0 (pa_cons (pv 3) (pa_cons (pv 0) pa_nil))) (pe_one (pe_call GBen (hr.mono (by decide)) rfl aBen.m aBen.k aBen.b .nil pass0 (pa_cons (pv 0) (pa_cons (pv 3) pa_nil)))))))), ?_⟩
    have shq := js_sh hq hl
    rcases hkk with ⟨p, rfl⟩ | ⟨p, rfl⟩
    · have shp := js_sh hk.1 hk.2
      refine ⟨_, rfl, u, _, rfl, SqT.of hu', rfl, _, _, rfl, _, _, rfl, rfl, _, rfl, rfl, _, rfl, iteN (by decide +kernel) ⟨_, rfl, _, rfl, _, _, rfl, ⟨shp, shq⟩, fun H1 s1 => ⟨_, rfl, ?_⟩⟩⟩
      rw [benS_js hk.1 hq]
      have fin : ∀ H', Same H H' → Q (.bl (ben p q || ben q p)) H' := fin
      cases e : ben p q with
      | true =>
        rw [e] at fin
        exact iteT (fin H1 s1)
      | false =>
        rw [e] at fin
        refine iteF ⟨_, rfl, _, rfl, _, _, rfl, ⟨shq, shp⟩, fun H2 s2 => ?_⟩
        show Q (.bl (benS (js q) (js p))) H2
        rw [benS_js hq hk.1]
        exact fin H2 (s1.trans s2)
    · have shp := js_sh hk.1 hk.2
      refine ⟨_, rfl, u, _, rfl, SqT.of hu', rfl, _, _, rfl, _, _, rfl, rfl, _, rfl, rfl, _, rfl, iteY rfl ⟨_, rfl, _, rfl, _, _, rfl, ⟨shp, shq⟩, fun H1 s1 => ?_⟩⟩
      show Q (.bl (decide (js p = js q) || benS (js p) (js q))) H1
      rw [benS_js hk.1 hq, js_eq hk.1 hq]
      exact fin H1 s1
theorem scLostN : FnScope ["place", "names", "lost", "word", "path", "name", "stroke", "deeper"] ["place", "names", "lost"] (defScope sLostN) := ⟨rfl, rfl, rfl, by decide +kernel, rfl, by decide +kernel, by decide +kernel⟩
theorem ok_lostN {f fA fB fR : Addr} {fd fdA fdB fdR : FuncData} (F : Fun K "lost_by_names" "lost_by_names" sLostN f fd) (T0 : TPk mg) (aAt : At K mg "is_at_or_beneath" fA fdA ["path", "place"]) (aBen : At K mg "is_beneath" fB fdB ["path", "place"]) (aRest : At K mg "rest_in" fR fdR ["path", "place"])
    (GAt : FnOk P w K mg base CX0 3 fA fdA ["path", "place"] spAt) (GBen : FnOk P w K mg base CX0 2 fB fdB ["path", "place"] spBen) (GRest : FnOk P w K mg base CX0 2 fR fdR ["path", "place"] spRest) : FnOk P w K mg base CX0 4 f fd ["place", "names", "lost"] spLostN := by
  obtain ⟨t1, mSTROKE⟩ := T0.STROKE
  refine F.ok scLostN (fun vs H Q E h => ?_) (fun cdv A outer s H vs Q E hr h => ?_)
  · obtain ⟨q, l, k, u, a, rfl, _⟩ := h
    rfl
  · obtain ⟨q, l, k, u, a, rfl, hu', ha, hl, hq, hlq, hk, hkk, fin⟩ := h
    refine ⟨_, pss_cons (ps_asg (pv 2) (pg_tup rfl (pgs_cons (pg_name (i := 3) scLostN.nd rfl (Or.inl rfl)) (pgs_cons (pg_name (i := 4) scLostN.nd rfl (Or.inl rfl)) pgs_nil))))
            (pss_cons (ps_if (pt_not (pt_val (pe_call GBen (hr.mono (by decide)) rfl aBen.m aBen.k aBen.b .nil pass0 (pa_cons (pv 4) (pa_cons (pv 0) pa_nil))))) (pss_one (ps_ret (pe_and (pe_cmpR op_eq (pv 3) pe_str (nomark _)) (pe_one (pe_call GAt (hr.mono (by decide)) rfl aAt.m aAt.k aAt.b .nil pass0 (pa_cons (pv 0) (pa_cons (pv 4) pa_nil))))))) (pss_nil))
            (pss_cons (ps_asg (pe_bm PySem.F.plainAttrs_str PySem.F.slot_str_partition PySem.F.type_str_partition mt_partition (pe_call GRest (hr.mono (by decide)) rfl aRest.m aRest.k aRest.b .nil pass0 (pa_cons (pv 4) (pa_cons (pv 0) pa_nil))) (pa_cons (pe_glob (v := .str "/") rfl mSTROKE ⟨_, rfl⟩) pa_nil)) (pg_tup rfl (pgs_cons (pg_name (i := 5) scLostN.nd rfl (Or.inl rfl)) (pgs_cons (pg_name (i := 6) scLostN.nd rfl (Or.inl rfl)) (pgs_cons (pg_name (i := 7) scLostN.nd rfl (Or.inl rfl)) pgs_nil)))))
            (pss_cons (ps_if (pt_cmpR op_in_seq (pe_op op_add_str (pv 5) (pe_glob (v := .str "/") rfl mSTROKE ⟨_, rfl⟩)) (pv 1) (by rfl)) (pss_one (ps_ret (pe_and (pe_cmpR op_eq (pv 3) pe_str (nomark _)) (pe_one (pe_cmpR op_eq (pv 7) pe_str (nomark _)))))) (pss_nil))
            (pss_cons (ps_if (pt_cmpR op_in_seq (pv 5) (pv 1) (by rfl)) (pss_one (ps_ret (pe_or (pe_cmpR op_eq (pv 3) pe_str (nomark _)) (pe_one (pe_cmpR op_eq (pv 6) (pe_glob (v := .str "/") rfl mSTROKE ⟨_, rfl⟩) (nomark _)))))) (pss_nil))
            (pss_one (ps_ret pe_bl)))))), ?_⟩
    have shq := js_sh hq hlq
    obtain ⟨wd, wb, p, hkv, hp, hlp, ewd, fin⟩ : ∃ (wd : Str) (wb : Bool) (p : List Str), lkV k = [.str wd, .str (js p)] ∧ Nms p ∧ p.length ≤ 100 ∧ ((wd = "read" ∧ wb = true) ∨ (wd = "list" ∧ wb = false)) ∧ ∀ H', Same H H' → Q (.bl (lostP q l wb p)) H' := by
      rcases hkk with ⟨p, rfl⟩ | ⟨p, rfl⟩
      · exact ⟨"read", true, p, rfl, hk.1, hk.2, .inl ⟨rfl, rfl⟩, fin⟩
      · exact ⟨"list", false, p, rfl, hk.1, hk.2, .inr ⟨rfl, rfl⟩, fin⟩
    have isR : decide (V.str wd = V.str "read") = wb := by
      rcases ewd with ⟨rfl, rfl⟩ | ⟨rfl, rfl⟩
      · rfl
      · decide +kernel
    have isL : decide (V.str wd = V.str "list") = !wb := by
      rcases ewd with ⟨rfl, rfl⟩ | ⟨rfl, rfl⟩
      · decide +kernel
      · rfl
    rw [hkv] at hu'
    have shp := js_sh hp hlp
    refine ⟨_, rfl, u, _, rfl, SqT.of hu', rfl, _, _, rfl, _, _, rfl, rfl, _, rfl, _, rfl, _, _, rfl, ⟨shp, shq⟩, fun H1 s1 => ⟨_, rfl, ?_⟩⟩
    rw [benS_js hp hq]
    unfold lostP at fin
    cases eb : ben p q with
    | false =>
      rw [eb] at fin
      refine iteT ⟨_, rfl, rfl, _, rfl, ?_⟩
      rw [isR]
      cases wb with
      | false => exact iteF (fin H1 s1)
      | true =>
        refine iteT ⟨_, rfl, _, rfl, _, _, rfl, ⟨shq, shp⟩, fun H2 s2 => ?_⟩
        show Q (.bl (decide (js q = js p) || benS (js q) (js p))) H2
        rw [benS_js hq hp, js_eq hq hp]
        exact fin H2 (s1.trans s2)
    | true =>
      rw [eb] at fin
      obtain ⟨r0, hr0, rfl⟩ := ben_iff.mp eb
      rw [if_pos rfl, List.drop_left] at fin
      match r0, hr0 with
      | n :: r, _ =>
        have hnr := hp.right
        have hn : IsNm n := hnr n List.mem_cons_self
        have hrr : Nms r := hnr.tail
        have rest : cutS (js (q ++ n :: r)) (some ((begS (js q)).length : Int)) none = js (n :: r) := by
          rw [begS_js hq]
          exact rest_bg q (by simp)
        have a1 := s1 _ _ ha
        have fin : ∀ H', Same H H' → Q (.bl (if (n, true) ∈ l then wb && decide (r = []) else if (n, false) ∈ l then !wb || !decide (r = []) else true)) H' := fin
        refine iteF ⟨_, rfl, _, rfl, _, _, rfl, ⟨shp, shq⟩, fun H2 s2 => ?_⟩
        have s12 := s1.trans s2
        dsimp only
        rw [rest]
        have shr : Sh (js (n :: r)) := js_sh hnr (by rw [List.length_append] at hlp; omega)
        refine ⟨rfl, js (n :: r), "/", rfl, rfl, rfl, shr.line, fun tp htp => ?_⟩
        rw [part_js hn]
        have fi : (if false = true then !inV (.str (n ++ "/")) (l.map entV) else inV (.str (n ++ "/")) (l.map entV)) = decide ((n, true) ∈ l) := in_ents hl hn true
        have fj : (if false = true then !inV (.str n) (l.map entV) else inV (.str n) (l.map entV)) = decide ((n, false) ∈ l) := in_ents hl hn false
        have n8 := hn.2.1
        have add : n.length + ("/" : Str).length ≤ sizeLine := Nat.le_trans (show n.length + 1 ≤ 9 by omega) (by decide)
        by_cases er : r = []
        · rw [if_pos er]
          rw [decide_eq_true er] at fin
          have sF := s1.trans (s2.trans (same_mk (o := .tup [.str (n, ("" : Str), ("" : Str)).1, .str (n, ("" : Str), ("" : Str)).2.1, .str (n, ("" : Str), ("" : Str)).2.2]) htp))
          have a3 := sF _ _ ha
          refine ⟨tp, _, rfl, SqT.of upd_same, rfl, _, _, rfl, _, _, rfl, _, _, rfl, rfl, _, rfl, _, _, rfl, rfl, add, _, rfl, a, _, rfl, .inr (SqT.of a3), rfl, flat_ents l, ?_⟩
          rw [fi]
          by_cases e1 : (n, true) ∈ l
          · rw [if_pos e1] at fin
            refine ⟨_, rfl, iteY e1 ⟨_, rfl, rfl, _, rfl, ?_⟩⟩
            rw [isR]
            cases wb with
            | false => exact iteF (fin _ sF)
            | true => exact iteT ⟨_, rfl, rfl, fin _ sF⟩
          · rw [if_neg e1] at fin
            refine ⟨_, rfl, iteN e1 ⟨_, rfl, _, rfl, a, _, rfl, .inr (SqT.of a3), rfl, flat_ents l, ?_⟩⟩
            rw [fj]
            by_cases e2 : (n, false) ∈ l
            · rw [if_pos e2] at fin
              refine ⟨_, rfl, iteY e2 ⟨_, rfl, rfl, _, rfl, ?_⟩⟩
              rw [isL]
              cases wb with
              | false => exact iteT (fin _ sF)
              | true => exact iteF ⟨_, rfl, rfl, by rw [show decide (V.str (n, ("" : Str), ("" : Str)).2.1 = V.str "/") = false from (by decide +kernel : decide (V.str ("" : Str) = V.str "/") = false)]; exact fin _ sF⟩
            · rw [if_neg e2] at fin
              exact ⟨_, rfl, iteN e2 (fin _ sF)⟩
        · rw [if_neg er]
          rw [decide_eq_false er] at fin
          have sF := s1.trans (s2.trans (same_mk (o := .tup [.str (n, ("/" : Str), js r).1, .str (n, ("/" : Str), js r).2.1, .str (n, ("/" : Str), js r).2.2]) htp))
          have a3 := sF _ _ ha
          refine ⟨tp, _, rfl, SqT.of upd_same, rfl, _, _, rfl, _, _, rfl, _, _, rfl, rfl, _, rfl, _, _, rfl, rfl, add, _, rfl, a, _, rfl, .inr (SqT.of a3), rfl, flat_ents l, ?_⟩
          rw [fi]
          by_cases e1 : (n, true) ∈ l
          · rw [if_pos e1] at fin
            refine ⟨_, rfl, iteY e1 ⟨_, rfl, rfl, _, rfl, ?_⟩⟩
            rw [isR]
            cases wb with
            | false => exact iteF (fin _ sF)
            | true => exact iteT ⟨_, rfl, rfl, by rw [decide_eq_false (show ¬ V.str (js r) = V.str "" from fun z => js_ne hrr er (V.str.inj z))]; exact fin _ sF⟩
          · rw [if_neg e1] at fin
            refine ⟨_, rfl, iteN e1 ⟨_, rfl, _, rfl, a, _, rfl, .inr (SqT.of a3), rfl, flat_ents l, ?_⟩⟩
            rw [fj]
            by_cases e2 : (n, false) ∈ l
            · rw [if_pos e2] at fin
              refine ⟨_, rfl, iteY e2 ⟨_, rfl, rfl, _, rfl, ?_⟩⟩
              rw [isL]
              cases wb with
              | false => exact iteT (fin _ sF)
              | true => exact iteF ⟨_, rfl, rfl, fin _ sF⟩
            · rw [if_neg e2] at fin
              exact ⟨_, rfl, iteN e2 (fin _ sF)⟩
theorem wd_tree {aTL : Addr} (hTL : ∀ H, SqT K H aTL [.str "read", .str "list"]) {H : Hp} {z : Str} {b : Bool} (e : inV (.str z) [V.str "read", V.str "list"] = b) {Q : VK} (q : Q (.bl (!b)) H) : rIn K true (.str z) (.ref aTL) H Q :=
  ⟨aTL, _, rfl, .inr (hTL H), rfl, rfl, by rw [e]; exact q⟩
theorem scFollows : FnScope ["one", "other", "look", "answer", "lost", "nothing"] ["one", "other"] (defScope sFollows) := ⟨rfl, rfl, rfl, by decide +kernel, rfl, by decide +kernel, by decide +kernel⟩
theorem ok_follows {f fF fN fB aTL : Addr} {fd fdF fdN fdB : FuncData} (F : Fun K "follows_from" "follows_from" sFollows f fd) (mTL : mg "TREE_LOOKS" = some (.ref aTL)) (hTL : ∀ H, SqT K H aTL [.str "read", .str "list"])
    (aLostF : At K mg "lost_by_file" fF fdF ["file_path", "lost"]) (aLostN : At K mg "lost_by_names" fN fdN ["place", "names", "lost"]) (aBen : At K mg "is_beneath" fB fdB ["path", "place"])
    (GLostF : FnOk P w K mg base CX0 4 fF fdF ["file_path", "lost"] spLostF) (GLostN : FnOk P w K mg base CX0 4 fN fdN ["place", "names", "lost"] spLostN) (GBen : FnOk P w K mg base CX0 2 fB fdB ["path", "place"] spBen) : FnOk P w K mg base CX0 5 f fd ["one", "other"] spFollows := by
  refine F.ok scFollows (fun vs H Q E h => ?_) (fun cdv A outer s H vs Q E hr h => ?_)
  · obtain ⟨v, v', s, s', rfl, _⟩ := h
    rfl
  · have hu := hr.units
    obtain ⟨v, v', ⟨k, a⟩, ⟨k', a'⟩, rfl, S1, S2, ok, w2, fin⟩ := h
    refine ⟨_, pss_cons (ps_asg (pv 0) (pg_tup rfl (pgs_cons (pg_name (i := 2) scFollows.nd rfl (Or.inl rfl)) (pgs_cons (pg_name (i := 3) scFollows.nd rfl (Or.inl rfl)) pgs_nil))))
            (pss_cons (ps_asg (pv 1) (pg_tup rfl (pgs_cons (pg_name (i := 4) scFollows.nd rfl (Or.inl rfl)) (pgs_cons (pg_name (i := 5) scFollows.nd rfl (Or.inl rfl)) pgs_nil))))
            (pss_cons (ps_if (pt_cmpR (op_eqD hu) (pv 0) (pv 1) (nomark _)) (pss_one (ps_ret pe_bl)) (pss_nil))
            (pss_cons (ps_if (PW.pt (pw_or (pt_cmp (pc_notN (pv 5))) (pw_or1 (pt_cmpR op_notIn_seq (pe_ix ix_tup (pv 4) pe_int (fun _ _ => rfl)) (pe_glob (v := .ref aTL) rfl mTL rfl) (by rfl))))) (pss_one (ps_ret pe_bl)) (pss_nil))
            (pss_cons (ps_if (pt_cmpR op_eq (pe_ix ix_tup (pv 2) pe_int (fun _ _ => rfl)) pe_str (nomark _)) (pss_one (ps_ret (pe_and (pe_cmp (pc_notN (pv 3)) rfl) (pe_one (pe_call GLostF (hr.mono (by decide)) rfl aLostF.m aLostF.k aLostF.b .nil pass0 (pa_cons (pe_ix ix_tup (pv 2) pe_int (fun _ _ => rfl)) (pa_cons (pv 4) pa_nil))))))) (pss_nil))
            (pss_cons (ps_if (pt_cmpR op_ne (pe_ix ix_tup (pv 2) pe_int (fun _ _ => rfl)) pe_str (nomark _)) (pss_one (ps_ret pe_bl)) (pss_nil))
            (pss_cons (ps_if (pt_cmp (pc_isN (pv 3))) (pss_one (ps_ret (pe_call GBen (hr.mono (by decide)) rfl aBen.m aBen.k aBen.b .nil pass0 (pa_cons (pe_ix ix_tup (pv 4) pe_int (fun _ _ => rfl)) (pa_cons (pe_ix ix_tup (pv 2) pe_int (fun _ _ => rfl)) pa_nil))))) (pss_nil))
            (pss_one (ps_ret (pe_call GLostN (hr.mono (by decide)) rfl aLostN.m aLostN.k aLostN.b .nil pass0 (pa_cons (pe_ix ix_tup (pv 2) pe_int (fun _ _ => rfl)) (pa_cons (pv 3) (pa_cons (pv 4) pa_nil)))))))))))), ?_⟩
    have d1 := si_dp (K := K) S1
    have d2 := si_dp (K := K) S2
    obtain ⟨t, u, va, rfl, h1, h2, h3⟩ := S1
    obtain ⟨t', u', va', rfl, h1', h2', h3'⟩ := S2
    refine ⟨_, rfl, t, _, rfl, SqT.of h1, rfl, _, _, rfl, _, _, rfl, rfl, _, rfl, t', _, rfl, SqT.of h1', rfl, _, _, rfl, _, _, rfl, rfl, ?_⟩
    refine ⟨_, rfl, _, rfl, _, _, d1, d2, siD_shaped ok.2, siD_shaped w2, ?_⟩
    rw [eqv_si ok.2 w2]
    have fin : ∀ H', Same H H' → Q (.bl (decide ((k, a) = (k', a')) || follM (k, a) (k', a'))) H' := by
      intro H' s'
      have := fin H' s'
      rw [show follM (k, a) (k', a') = (decide ((k, a) = (k', a')) || follM (k, a) (k', a')) by unfold follM; rw [← Bool.or_assoc, Bool.or_self]] at this
      exact this
    by_cases eq : ((k, a) : Lk × An) = (k', a')
    · rw [decide_eq_true eq] at fin
      exact ⟨_, rfl, iteY eq (fin H (Same.refl H))⟩
    rw [decide_eq_false eq] at fin
    refine ⟨_, rfl, iteN eq ?_⟩
    have fin : ∀ H', Same H H' → Q (.bl (match ((k', a') : Lk × An) with | (.rd p, .no) => follL (k, a) (.rd p) | (.ls p, .no) => follL (k, a) (.ls p) | _ => false)) H' := by
      intro H' s'
      have := fin H' s'
      unfold follM at this
      rw [decide_eq_false eq] at this
      exact this
    cases a' with
    | tx z =>
      cases (show va' = .str z from h3')
      refine ⟨_, rfl, _, rfl, iteT ?_⟩
      have := fin H (Same.refl H)
      cases k' <;> exact this
    | es l =>
      obtain ⟨b, rfl, _⟩ := h3'
      refine ⟨_, rfl, _, rfl, iteT ?_⟩
      have := fin H (Same.refl H)
      cases k' <;> exact this
    | no =>
      cases (show va' = .non from h3')
      by_cases tree : (∃ p, k' = .rd p) ∨ ∃ p, k' = .ls p
      · obtain ⟨wd, p, hkv, hin, hp, hlp, fin, hb⟩ : ∃ (wd : Str) (p : List Str), lkV k' = [.str wd, .str (js p)] ∧ inV (.str wd) [V.str "read", V.str "list"] = true ∧ Nms p ∧ p.length ≤ 100 ∧ (∀ H', Same H H' → Q (.bl (follL (k, a) k')) H') ∧ ∀ q, follL (.ls q, .no) k' = ben p q := by
          rcases tree with ⟨p, rfl⟩ | ⟨p, rfl⟩
          · exact ⟨"read", p, rfl, by decide +kernel, w2.1.1, w2.1.2, fin, fun q => rfl⟩
          · exact ⟨"list", p, rfl, by decide +kernel, w2.1.1, w2.1.2, fin, fun q => rfl⟩
        have h2o := h2'
        rw [hkv] at h2'
        refine ⟨_, rfl, _, rfl, iteF ⟨_, rfl, u', _, 0, _, rfl, rfl, SqT.of h2', atI_nat (j := 0) rfl, aTL, _, rfl, .inr (hTL _), rfl, rfl, ?_⟩⟩
        rw [show (if true = true then !inV (.str wd) [V.str "read", V.str "list"] else inV (.str wd) [V.str "read", V.str "list"]) = false by rw [if_pos rfl, hin]; rfl]
        refine ⟨_, rfl, iteF ?_⟩
        cases k with
        | rd q =>
          have wq := ok.2.1
          refine ⟨_, rfl, u, _, 0, _, rfl, rfl, SqT.of h2, atI_nat (j := 0) rfl, rfl, _, rfl, iteY rfl ⟨_, rfl, _, rfl, ?_⟩⟩
          cases a with
          | no =>
            cases (show va = .non from h3)
            exact iteF (fin H (Same.refl H))
          | tx z =>
            cases (show va = .str z from h3)
            exact iteT ⟨_, rfl, u, _, 1, _, rfl, rfl, SqT.of h2, atI_nat (j := 1) rfl, _, rfl, q, k', u', rfl, h2o, wq.1, wq.2, w2.1, tree, fin⟩
          | es l => exact ok.1.2.elim
        | ls q =>
          have wq := ok.2.1
          refine ⟨_, rfl, u, _, 0, _, rfl, rfl, SqT.of h2, atI_nat (j := 0) rfl, rfl, _, rfl, iteN (by decide +kernel) ⟨_, rfl, u, _, 0, _, rfl, rfl, SqT.of h2, atI_nat (j := 0) rfl, rfl, _, rfl, iteF ⟨_, rfl, _, rfl, ?_⟩⟩⟩
          cases a with
          | no =>
            cases (show va = .non from h3)
            refine iteT ⟨_, rfl, u', _, 1, _, rfl, rfl, SqT.of h2', atI_nat (j := 1) rfl, _, rfl, u, _, 1, _, rfl, rfl, SqT.of h2, atI_nat (j := 1) rfl, js p, js q, rfl, ⟨js_sh hp hlp, js_sh wq.1 wq.2⟩, fun H1 s1 => ?_⟩
            show Q (.bl (benS (js p) (js q))) H1
            rw [benS_js hp wq.1, ← hb q]
            exact fin H1 s1
          | tx z => exact ok.1.2.elim
          | es l =>
            obtain ⟨b, rfl, hb2⟩ := h3
            exact iteN (by intro z; cases z) ⟨_, rfl, u, _, 1, _, rfl, rfl, SqT.of h2, atI_nat (j := 1) rfl, _, rfl, _, rfl, q, l, k', u', b, rfl, h2o, hb2, ok.2.2.1, wq.1, wq.2, w2.1, tree, fin⟩
        | se n =>
          refine ⟨_, rfl, u, _, 0, _, rfl, rfl, SqT.of h2, atI_nat (j := 0) rfl, rfl, _, rfl, iteN (by decide +kernel) ⟨_, rfl, u, _, 0, _, rfl, rfl, SqT.of h2, atI_nat (j := 0) rfl, rfl, _, rfl, ?_⟩⟩
          exact iteT (fin H (Same.refl H))
        | tl =>
          refine ⟨_, rfl, u, _, 0, _, rfl, rfl, SqT.of h2, atI_nat (j := 0) rfl, rfl, _, rfl, iteN (by decide +kernel) ⟨_, rfl, u, _, 0, _, rfl, rfl, SqT.of h2, atI_nat (j := 0) rfl, rfl, _, rfl, ?_⟩⟩
          exact iteT (fin H (Same.refl H))
      · obtain ⟨wd, rest, hkv, hin, fin⟩ : ∃ (wd : Str) (rest : List V), lkV k' = .str wd :: rest ∧ inV (.str wd) [V.str "read", V.str "list"] = false ∧ ∀ H', Same H H' → Q (.bl false) H' := by
          cases k' with
          | rd p => exact absurd (.inl ⟨p, rfl⟩) tree
          | ls p => exact absurd (.inr ⟨p, rfl⟩) tree
          | se n => exact ⟨"setting", _, rfl, by decide +kernel, fin⟩
          | tl => exact ⟨"tool", _, rfl, by decide +kernel, fin⟩
        rw [hkv] at h2'
        refine ⟨_, rfl, _, rfl, iteF ⟨_, rfl, u', _, 0, _, rfl, rfl, SqT.of h2', atI_nat (j := 0) rfl, aTL, _, rfl, .inr (hTL _), rfl, rfl, ?_⟩⟩
        rw [show (if true = true then !inV (.str wd) [V.str "read", V.str "list"] else inV (.str wd) [V.str "read", V.str "list"]) = true by rw [if_pos rfl, hin]; rfl]
        exact ⟨_, rfl, iteT (fin H (Same.refl H))⟩
theorem scContrE : FnScope ["place", "entry", "word"] ["place", "entry"] (defScope sContrE) := ⟨rfl, rfl, rfl, by decide +kernel, rfl, by decide +kernel, by decide +kernel⟩
theorem ok_contrE {f fB : Addr} {fd fdB : FuncData} (F : Fun K "contrary_of_entry" "contrary_of_entry" sContrE f fd) (T0 : TPk mg) (aBeg : At K mg "beginning" fB fdB ["place"]) (GBeg : FnOk P w K mg base CX0 1 fB fdB ["place"] spBeg) : FnOk P w K mg base CX0 2 f fd ["place", "entry"] spContrE := by
  obtain ⟨t1, mSTROKE⟩ := T0.STROKE
  refine F.ok scContrE (fun vs H Q E h => ?_) (fun cdv A outer s H vs Q E hr h => ?_)
  · obtain ⟨p, e, rfl, _⟩ := h
    rfl
  · obtain ⟨p, ⟨n, b⟩, rfl, hp, hlp, hn, fin⟩ := h
    refine ⟨_, pss_cons (ps_set (i := 2) scContrE.nd rfl (Or.inl rfl) (pe_ifExp (pt_val (pe_bm PySem.F.plainAttrs_str PySem.F.slot_str_endswith PySem.F.type_str_endswith mt_endswith (pv 1) (pa_cons (pe_glob (v := .str "/") rfl mSTROKE ⟨_, rfl⟩) pa_nil))) pe_str pe_str))
            (pss_one (ps_ret (pe_tup (pa_cons (pe_tup (pa_cons (pv 2) (pa_cons (pe_op op_add_str (pe_call GBeg (hr.mono (by decide)) rfl aBeg.m aBeg.k aBeg.b .nil pass0 (pa_cons (pv 0) pa_nil)) (pe_bm PySem.F.plainAttrs_str PySem.F.slot_str_removesuffix PySem.F.type_str_removesuffix mt_removesuffix (pv 1) (pa_cons (pe_glob (v := .str "/") rfl mSTROKE ⟨_, rfl⟩) pa_nil))) pa_nil))) (pa_cons pe_non pa_nil))))), ?_⟩
    have hn : IsNm n := hn
    have n8 := hn.2.1
    have el : (ent n b).length ≤ sizeLine := by
      refine Nat.le_trans (show (ent n b).length ≤ 9 from ?_) (by decide)
      rw [len_tl, tl_ent, List.length_append, ← len_tl]
      cases b <;> simp <;> omega
    refine ⟨_, rfl, rfl, ent n b, "/", rfl, rfl, _, rfl, ?_⟩
    rw [ew_ent hn]
    have sh := js_sh hp (Nat.le_trans hlp (by decide))
    have go : ∀ (wd : Str), (∀ (t u : Addr) (H' : Hp), Same H H' → H' t = some (.tup [.ref u, .non]) → H' u = some (.tup [.str wd, .str (js (p ++ [n]))]) → Q (.ref t) H') →
        tRet (tTup (tCons (tTup (tCons (tVar 2) (tCons (tOp (fun x y H Q => ∃ i j, x = V.str i ∧ y = V.str j ∧ i.length + j.length ≤ sizeLine ∧ Q (V.str (i ++ j)) H) (tCall spBeg [] E0 (tCons (tVar 0) tNil)) (tBM K "str" (fun x xs H Q => ∃ a b, x = V.str a ∧ xs = [V.str b] ∧ a.length ≤ sizeLine ∧ Q (V.str (Txt.removesuffix a b)) H) (tVar 1) (tCons (tC (V.str "/")) tNil))) tNil))) (tCons (tC V.non) tNil))) { nx := fun x H' => Q V.non H', rt := Q }
          [some (.str (js p)), some (entV (n, b)), some (.str wd)] H := fun wd fin => by
      refine ⟨_, rfl, _, rfl, js p, rfl, sh, fun H1 s1 => ⟨_, rfl, rfl, ent n b, "/", rfl, rfl, el, ?_⟩⟩
      rw [rms_ent hn]
      refine ⟨_, _, rfl, rfl, ?_, by show 2 ≤ sizeLine; decide, fun u hu => ⟨by show 2 ≤ sizeLine; decide, fun t ht => ?_⟩⟩
      · rw [begS_js hp]
        have := js_len hp
        have := bg_len p
        refine Nat.le_trans (show (bg p).length + n.length ≤ 1000 from ?_) (by decide)
        rw [this]
        rw [len_tl, tl_js] at *
        split <;> omega
      · rw [begS_js hp, show bg p ++ n = js (p ++ [n]) by rw [← bg_app p (by simp), js_one]] at *
        exact fin t u _ (same_ch (same_ch s1 (s1.free hu)) ((same_ch s1 (s1.free hu)).free ht)) upd_same (same_mk ht _ _ upd_same)
    cases b with
    | true => exact iteT (go "list" fun t u H' s' h1 h2 => fin _ H' s' ⟨t, u, .non, rfl, h1, h2, rfl⟩)
    | false => exact iteF (go "read" fun t u H' s' h1 h2 => fin _ H' s' ⟨t, u, .non, rfl, h1, h2, rfl⟩)
end
end G

set_option maxHeartbeats 3900000
namespace G
open PySem PySem.Spec PyProof.Rows L2 TL
open C8 (pss_cut tCut pe_gc)
open CB
theorem SisL.up {H H' : Hp} {D : Addr} {ss : List (Lk × An)} (h : SisL H D ss) (s : Same H H') : SisL H' D ss := by
  obtain ⟨vs, h1, h2, h3⟩ := h
  exact ⟨vs, s _ _ h1, h2, fun i v x hv hx => (h3 i v x hv hx).up s⟩
theorem con_w {s : Lk × An} (h : SiOk' s) : ∀ x ∈ con s, SiW x := by
  obtain ⟨k, a⟩ := s
  obtain ⟨⟨hk, ha⟩, _⟩ := h
  intro x hx
  cases k with
  | rd p =>
    cases a with
    | no => cases hx
    | tx z =>
      rw [show con (.rd p, .tx z) = [(.rd p, .no)] from rfl, List.mem_singleton] at hx
      rw [hx]
      exact ⟨⟨hk.2.1, Nat.le_trans hk.2.2 (by decide)⟩, trivial⟩
    | es l => exact ha.elim
  | ls p =>
    cases a with
    | no => cases hx
    | tx z => cases hx
    | es l =>
      obtain ⟨e, he, rfl⟩ := List.mem_map.mp (show x ∈ l.map (conE p) from hx)
      have hn := ha.1.1 e he
      have hl : (p ++ [e.1]).length ≤ 100 := by
        have := hk.2
        rw [List.length_append]
        show p.length + 1 ≤ 100
        omega
      have hm : Nms (p ++ [e.1]) := hk.1.app fun y hy => by
        rw [List.mem_singleton.mp hy]
        exact hn
      unfold conE
      cases e.2
      · exact ⟨⟨hm, hl⟩, trivial⟩
      · exact ⟨⟨hm, hl⟩, trivial⟩
  | se n => cases a <;> cases hx
  | tl => cases a <;> cases hx
theorem con_len {s : Lk × An} (h : SiOk' s) : (con s).length ≤ 1000 := by
  obtain ⟨k, a⟩ := s
  obtain ⟨⟨hk, ha⟩, _⟩ := h
  cases k <;> cases a <;> first | exact Nat.zero_le _ | skip
  · exact (by decide : 1 ≤ 1000)
  · show (List.map _ _).length ≤ 1000
    rw [List.length_map]
    exact ha.1.2.2
section
variable {P : Program} {w : World} {K : PySem.W.Frag} {mg : Str → Option Value} {base : Heap}
theorem scDenies : FnScope ["sight", "others", "other"] ["sight", "others"] (defScope sDenies) := ⟨rfl, rfl, rfl, by decide +kernel, rfl, by decide +kernel, by decide +kernel⟩
theorem ok_denies {f fF : Addr} {fd fdF : FuncData} (F : Fun K "denies_some" "denies_some" sDenies f fd) (T : TB mg) (aFollows : At K mg "follows_from" fF fdF ["one", "other"]) (GFollows : FnOk P w K mg base CX0 5 fF fdF ["one", "other"] spFollows) : FnOk P w K mg base CX0 6 f fd ["sight", "others"] spDenies := by
  refine F.ok scDenies (fun vs H Q E h => ?_) (fun cdv A outer s H vs Q E hr h => ?_)
  · obtain ⟨v, D, s, ss, rfl, _⟩ := h
    rfl
  · obtain ⟨v, D, s, ss, rfl, hs, ok, ⟨vs, hD, hl, hv⟩, h1000, hw, fin⟩ := h
    refine ⟨_, pss_one (ps_ret (pe_callB (cr_any rfl) (by rfl) T.any boot_any (pa_cons (pe_lc (own := [("other", 2)]) (g := gName 2) (tt := tYes) rfl scDenies.nd (pi_list (pv 1)) (blkOk_by (own := [("other", 2)]) (N := ["sight", "others", "other"]) (sc := defScope sDenies) (by decide +kernel)) (fun _ _ _ _ _ => (pg_name (i := 2) scDenies.nd rfl (Or.inl rfl))) (fun _ _ _ _ _ => pts_nil) (fun _ _ _ _ _ => (by exact (pe_call GFollows (hr.mono (by decide)) rfl aFollows.m aFollows.k aFollows.b .nil pass0 (pa_cons (pv 0) (pa_cons (pv 2) pa_nil)))))) pa_nil))), ?_⟩
    have ez : ∀ z ∈ vs.zip ss, SiAt H z.1 z.2 ∧ SiW z.2 := by
      intro z hz
      obtain ⟨i, hi⟩ := List.mem_iff_getElem?.mp hz
      rw [List.getElem?_zip_eq_some] at hi
      exact ⟨hv i _ _ hi.1 hi.2, hw _ (List.mem_of_getElem? hi.2)⟩
    have e1 : (vs.zip ss).map Prod.fst = vs := List.map_fst_zip (by omega)
    have e2 : (vs.zip ss).map Prod.snd = ss := List.map_snd_zip (by omega)
    have hz : (vs.zip ss).length < 1000000 := by
      rw [List.length_zip]
      omega
    refine ⟨_, rfl, D, rfl, ⟨_, SqL.of hD⟩, fun L hL => ?_⟩
    refine lc_mapL (vs.zip ss) Prod.fst (fun z => .bl (follM s z.2)) hz hL (SqL.of (by rw [e1]; exact hD)) ?_ ?_
    · intro z hz H2 s2 Q1 k1
      obtain ⟨a1, a2⟩ := ez z hz
      exact ⟨_, rfl, _, rfl, _, _, s, z.2, rfl, hs.up s2, a1.up s2, ok, a2, k1⟩
    · intro H' s' hL'
      refine any_of (vs.zip ss) (fun z => follM s z.2) hL' ?_
      have : ((vs.zip ss).any fun z => follM s z.2) = denM s ss := by
        unfold denM
        conv => rhs; rw [← e2]
        rw [List.any_map]
        rfl
      rw [this]
      exact fin H' s'
theorem scContr : FnScope ["sight", "look", "answer", "entry"] ["sight"] (defScope sContr) := ⟨rfl, rfl, rfl, by decide +kernel, rfl, by decide +kernel, by decide +kernel⟩
theorem ok_contr {f fE aTL : Addr} {fd fdE : FuncData} (F : Fun K "contraries" "contraries" sContr f fd) (mTL : mg "TREE_LOOKS" = some (.ref aTL)) (hTL : ∀ H, SqT K H aTL [.str "read", .str "list"]) (aContrE : At K mg "contrary_of_entry" fE fdE ["place", "entry"])
    (GContrE : FnOk P w K mg base CX0 2 fE fdE ["place", "entry"] spContrE) : FnOk P w K mg base CX0 3 f fd ["sight"] spContr := by
  refine F.ok scContr (fun vs H Q E h => ?_) (fun cdv A outer s H vs Q E hr h => ?_)
  · obtain ⟨v, s, rfl, _⟩ := h
    rfl
  · obtain ⟨v, ⟨k, a⟩, rfl, ⟨t, u, va, rfl, h1, h2, h3⟩, ok, fin⟩ := h
    refine ⟨_, pss_cons (ps_asg (pv 0) (pg_tup rfl (pgs_cons (pg_name (i := 1) scContr.nd rfl (Or.inr rfl)) (pgs_cons (pg_name (i := 2) scContr.nd rfl (Or.inl rfl)) pgs_nil))))
            (pss_cons (ps_if (PW.pt (pw_or (pt_cmp (pc_isN (pv 2))) (pw_or1 (pt_cmpR op_notIn_seq (pe_ix ix_tup (pv 1) pe_int (fun _ _ => rfl)) (pe_glob (v := .ref aTL) rfl mTL rfl) (by rfl))))) (pss_one (ps_ret (pe_lst pa_nil))) (pss_nil))
            (pss_cons (ps_if (pt_cmpR op_eq (pe_ix ix_tup (pv 1) pe_int (fun _ _ => rfl)) pe_str (nomark _)) (pss_one (ps_ret (pe_lst (pa_cons (pe_tup (pa_cons (pv 1) (pa_cons pe_non pa_nil))) pa_nil)))) (pss_nil))
            (pss_one (ps_ret (pe_lc (own := [("entry", 3)]) (g := gName 3) (tt := tYes) rfl scContr.nd (pi_tup (pv 2)) (blkOk_by (own := [("entry", 3)]) (N := ["sight", "look", "answer", "entry"]) (sc := defScope sContr) (by decide +kernel)) (fun _ _ _ _ _ => (pg_name (i := 3) scContr.nd rfl (Or.inl rfl))) (fun _ _ _ _ _ => pts_nil) (fun _ _ _ _ _ => (by exact (pe_call GContrE (hr.mono (by decide)) rfl aContrE.m aContrE.k aContrE.b .nil pass0 (pa_cons (pe_ix (ix_tupK (K0 := K) rfl) (pv 1) pe_int (fun _ _ => rfl)) (pa_cons (pv 3) pa_nil)))))))))), ?_⟩
    refine ⟨_, rfl, t, _, rfl, SqT.of h1, rfl, _, _, rfl, _, _, rfl, rfl, ?_⟩
    have none : con (k, a) = [] → ∀ D, H D = Option.none → Q (.ref D) (upd H D (.lst [])) := fun e D hD => fin D _ (same_mk hD) (by
      rw [e]
      exact ⟨[], upd_same, rfl, fun i v s h => by cases h⟩)
    have rest : ∀ (wd : Str) (r : List V) (b : Bool), lkV k = .str wd :: r → inV (.str wd) [V.str "read", V.str "list"] = b → (if true = true then !inV (.str wd) [V.str "read", V.str "list"] else inV (.str wd) [V.str "read", V.str "list"]) = !b := fun wd r b _ h => by
      rw [if_pos rfl, h]
    cases a with
    | no =>
      cases (show va = .non from h3)
      exact ⟨_, rfl, _, rfl, iteT ⟨Nat.zero_le _, fun D hD => none (by cases k <;> rfl) D hD⟩⟩
    | tx z =>
      cases (show va = .str z from h3)
      cases k with
      | rd p =>
        refine ⟨_, rfl, _, rfl, iteN (by intro z; cases z) ⟨_, rfl, u, _, 0, _, rfl, rfl, SqT.of h2, atI_nat (j := 0) rfl, aTL, _, rfl, .inr (hTL _), rfl, rfl, ?_⟩⟩
        rw [rest "read" _ true rfl (by decide +kernel)]
        refine ⟨_, rfl, iteF ⟨_, rfl, u, _, 0, _, rfl, rfl, SqT.of h2, atI_nat (j := 0) rfl, rfl, _, rfl, iteY rfl ⟨_, rfl, by show 2 ≤ sizeLine; decide, fun t' ht' => ⟨by show 1 ≤ sizeLine; decide, fun D hD => ?_⟩⟩⟩⟩
        have s1 := same_mk (o := .tup [.ref u, .non]) ht'
        refine fin D _ (same_ch s1 (s1.free hD)) ⟨[.ref t'], upd_same, rfl, fun i v s hv hs => ?_⟩
        match i, hv, hs with
        | 0, hv, hs =>
          cases hv
          cases hs
          exact ⟨t', u, .non, rfl, same_mk hD _ _ upd_same, same_mk hD _ _ (s1 _ _ h2), rfl⟩
      | ls p => exact ok.1.2.elim
      | se n =>
        refine ⟨_, rfl, _, rfl, iteN (by intro z; cases z) ⟨_, rfl, u, _, 0, _, rfl, rfl, SqT.of h2, atI_nat (j := 0) rfl, aTL, _, rfl, .inr (hTL _), rfl, rfl, ?_⟩⟩
        rw [rest "setting" _ false rfl (by decide +kernel)]
        exact ⟨_, rfl, iteT ⟨Nat.zero_le _, fun D hD => none rfl D hD⟩⟩
      | tl =>
        refine ⟨_, rfl, _, rfl, iteN (by intro z; cases z) ⟨_, rfl, u, _, 0, _, rfl, rfl, SqT.of h2, atI_nat (j := 0) rfl, aTL, _, rfl, .inr (hTL _), rfl, rfl, ?_⟩⟩
        rw [rest "tool" _ false rfl (by decide +kernel)]
        exact ⟨_, rfl, iteT ⟨Nat.zero_le _, fun D hD => none rfl D hD⟩⟩
    | es l =>
      obtain ⟨b, rfl, hb⟩ := h3
      cases k with
      | rd p => exact ok.1.2.elim
      | se n => exact ok.1.2.elim
      | tl => exact ok.1.2.elim
      | ls p =>
        refine ⟨_, rfl, _, rfl, iteN (by intro z; cases z) ⟨_, rfl, u, _, 0, _, rfl, rfl, SqT.of h2, atI_nat (j := 0) rfl, aTL, _, rfl, .inr (hTL _), rfl, rfl, ?_⟩⟩
        rw [rest "list" _ true rfl (by decide +kernel)]
        refine ⟨_, rfl, iteF ⟨_, rfl, u, _, 0, _, rfl, rfl, SqT.of h2, atI_nat (j := 0) rfl, rfl, _, rfl, iteN (by decide +kernel) ?_⟩⟩
        refine ⟨_, rfl, b, rfl, ⟨_, SqT.of hb⟩, fun D hD => ?_⟩
        have h1000 : l.length ≤ 1000 := ok.1.2.1.2.2
        refine lcR (walk_tup (K := K) (a := b) (xs := l.map entV)) (fun i y H => ∀ e, l[i]? = some e → SiAt H y (conE p e)) (fun i y H H' t h e he => (h e he).upT t) (by rw [List.length_map]; omega) hD (fun H' s => sameT s (SqT.of hb)) ?_ ?_
        · rintro i x H2 H3 hi s2 ⟨rfl, hx⟩ Q1 k1
          rw [List.getElem?_map] at hx
          match q : l[i]? with
          | Option.none =>
            rw [q] at hx
            cases hx
          | some e =>
            rw [q] at hx
            cases hx
            exact ⟨_, rfl, u, _, 0 + 1, _, rfl, rfl, SqT.of (s2 _ _ h2), atI_nat (j := 1) rfl, _, rfl, p, e, rfl, ok.1.1.1, ok.1.1.2, ok.1.2.1.1 e (List.mem_of_getElem? q), fun v H4 s4 hv => k1 v H4 s4 fun e' he' => by
              rw [q] at he'
              cases he'
              exact hv⟩
        · intro ys H' hl s' hD' hr
          rw [List.length_map] at hl
          refine fin D H' s' ⟨ys, hD', by rw [hl]; exact (List.length_map _).symm, fun i v s hv hs => ?_⟩
          have hs : (l.map (conE p))[i]? = some s := hs
          rw [List.getElem?_map] at hs
          match q : l[i]? with
          | Option.none =>
            rw [q] at hs
            cases hs
          | some e =>
            rw [q] at hs
            cases hs
            exact hr i v hv e q
theorem scBarE : FnScope ["one", "other"] ["one", "other"] (defScope sBarE) := ⟨rfl, rfl, rfl, by decide +kernel, rfl, by decide +kernel, by decide +kernel⟩
theorem ok_barE {f fD fC : Addr} {fd fdD fdC : FuncData} (F : Fun K "bar_each_other" "bar_each_other" sBarE f fd) (aDenies : At K mg "denies_some" fD fdD ["sight", "others"]) (aContr : At K mg "contraries" fC fdC ["sight"])
    (GDenies : FnOk P w K mg base CX0 6 fD fdD ["sight", "others"] spDenies) (GContr : FnOk P w K mg base CX0 3 fC fdC ["sight"] spContr) : FnOk P w K mg base CX0 7 f fd ["one", "other"] spBarE := by
  refine F.ok scBarE (fun vs H Q E h => ?_) (fun cdv A outer s H vs Q E hr h => ?_)
  · obtain ⟨v, v', s, s', rfl, _⟩ := h
    rfl
  · have hu := hr.units
    obtain ⟨v, v', s, s', rfl, S1, S2, ok, ok', fin⟩ := h
    refine ⟨_, pss_cons (ps_if (pt_cmpR (op_eqD hu) (pe_ix ix_tup (pv 0) pe_int (fun _ _ => rfl)) (pe_ix ix_tup (pv 1) pe_int (fun _ _ => rfl)) (nomark _)) (pss_one (ps_ret (pe_cmpR (op_neD hu) (pe_ix ix_tup (pv 0) pe_int (fun _ _ => rfl)) (pe_ix ix_tup (pv 1) pe_int (fun _ _ => rfl)) (nomark _)))) (pss_nil))
            (pss_one (ps_ret (pe_or (pe_call GDenies (hr.mono (by decide)) rfl aDenies.m aDenies.k aDenies.b .nil pass0 (pa_cons (pv 0) (pa_cons (pe_call GContr (hr.mono (by decide)) rfl aContr.m aContr.k aContr.b .nil pass0 (pa_cons (pv 1) pa_nil)) pa_nil))) (pe_one (pe_call GDenies (hr.mono (by decide)) rfl aDenies.m aDenies.k aDenies.b .nil pass0 (pa_cons (pv 1) (pa_cons (pe_call GContr (hr.mono (by decide)) rfl aContr.m aContr.k aContr.b .nil pass0 (pa_cons (pv 0) pa_nil)) pa_nil))))))), ?_⟩
    have S1o := S1
    have S2o := S2
    obtain ⟨t, u, va, rfl, h1, h2, h3⟩ := S1
    obtain ⟨t', u', va', rfl, h1', h2', h3'⟩ := S2
    refine ⟨_, rfl, t, _, 0, _, rfl, rfl, SqT.of h1, atI_nat (j := 0) rfl, _, rfl, t', _, 0, _, rfl, rfl, SqT.of h1', atI_nat (j := 0) rfl, _, _, lk_dp h2, lk_dp h2', lkD_shaped ok.2.1, lkD_shaped ok'.2.1, ?_⟩
    rw [eqv_lk ok.2.1 ok'.2.1]
    unfold barsM at fin
    by_cases e : s.1 = s'.1
    · rw [if_pos e] at fin
      refine ⟨_, rfl, iteY e ⟨_, rfl, t, _, 1, _, rfl, rfl, SqT.of h1, atI_nat (j := 1) rfl, _, rfl, t', _, 1, _, rfl, rfl, SqT.of h1', atI_nat (j := 1) rfl, _, _, an_dp h3, an_dp h3', anD_shaped ok.2.2, anD_shaped ok'.2.2, ?_⟩⟩
      rw [eqv_an ok.2.2 ok'.2.2]
      exact fin H (Same.refl H)
    · rw [if_neg e] at fin
      refine ⟨_, rfl, iteN e ⟨_, rfl, _, rfl, .ref t', s', rfl, S2o, ok', fun D H1 s1 hD => ⟨.ref t, D, s, con s', rfl, S1o.up s1, ok, hD, con_len ok', con_w ok', fun H2 s2 => ⟨_, rfl, ?_⟩⟩⟩⟩
      cases e1 : denM s (con s') with
      | true =>
        rw [e1] at fin
        exact iteT (fin H2 (s1.trans s2))
      | false =>
        rw [e1] at fin
        have s12 := s1.trans s2
        exact iteF ⟨_, rfl, _, rfl, .ref t, s, rfl, S1o.up s12, ok, fun D' H3 s3 hD' => ⟨.ref t', D', s', con s, rfl, (S2o.up s12).up s3, ok', hD', con_len ok, con_w ok, fun H4 s4 => fin H4 ((s12.trans s3).trans s4)⟩⟩
theorem scPlain : FnScope ["things", "plain", "index", "sight", "thing"] ["things"] (defScope sPlain) := ⟨rfl, rfl, rfl, by decide +kernel, rfl, by decide +kernel, by decide +kernel⟩
theorem ok_plain {f fA : Addr} {fd fdA : FuncData} (F : Fun K "plain_sights" "plain_sights" sPlain f fd) (T : TB mg) (aAsSight : At K mg "as_sight" fA fdA ["thing"]) (GAsSight : FnOk P w K mg base CX0 6 fA fdA ["thing"] spAsSight) : FnOk P w K mg base CX0 7 f fd ["things"] spPlain := by
  refine F.ok scPlain (fun vs H Q E h => ?_) (fun cdv A outer s H vs Q E hr h => ?_)
  · obtain ⟨v, vs', ss, rfl, _⟩ := h
    rfl
  · obtain ⟨v, vs', ss, rfl, hv, hl, h1000, hin, hok, fin⟩ := h
    refine ⟨_, pss_cons (ps_setLc (i := 1) (own := [("thing", 4)]) (g := gName 4) (tt := tYes) rfl scPlain.nd rfl rfl (sw_true rfl rfl rfl (by decide +kernel)) (pi_seqv (pv 0)) (blkOk_by (own := [("thing", 4)]) (N := ["things", "plain", "index", "sight", "thing"]) (sc := defScope sPlain) (by decide +kernel)) (fun _ _ _ _ _ => (pg_name (i := 4) scPlain.nd rfl (Or.inl rfl))) (fun _ _ _ _ _ => pts_nil) (fun _ _ _ _ _ => (by exact (pe_call GAsSight (hr.mono (by decide)) rfl aAsSight.m aAsSight.k aAsSight.b .nil pass0 (pa_cons (pv 4) pa_nil)))))
            (pss_cons (ps_for PassesOwn.never rfl (pi_enum rfl T.enumerate (pa_cons (pv 1) pa_nil)) (pg_tup rfl (pgs_cons (pg_name (i := 2) scPlain.nd rfl (Or.inl rfl)) (pgs_cons (pg_name (i := 3) scPlain.nd rfl (Or.inl rfl)) pgs_nil))) (pss_one (ps_if (pt_cmp (pc_isN (pv 3))) (pss_one (ps_never)) (pss_nil))))
            (pss_one (ps_ret (pv 1)))), ?_⟩
    refine setR_row vs' (fun i y H => ∀ s, ss[i]? = some s → SiAt H y s) (fun i y H H' t h s hs => (h s hs).upT t) rfl hv (by omega) ?_ ?_
    · intro m x H2 hx s2 Q1 k1
      have hm : m < ss.length := by
        rw [← hl]
        exact (List.getElem?_eq_some_iff.mp hx).1
      have hs : ss[m]? = some ss[m] := List.getElem?_eq_getElem hm
      refine ⟨_, rfl, x, ss[m], rfl, (hin m x _ hx hs).up s2, hok _ (List.mem_of_getElem? hs), fun y H4 s4 hy => k1 y H4 s4 fun s' hs' => ?_⟩
      rw [hs] at hs'
      cases hs'
      exact hy
    intro D ys H1 hys s1 hD hD1 hr1
    have isAt : ∀ (i : Nat) (y : V), ys[i]? = some y → ∃ t, y = V.ref t := by
      intro i y hy
      have hi := (List.getElem?_eq_some_iff.mp hy).1
      have hs : ss[i]? = some (ss[i]'(by omega)) := List.getElem?_eq_getElem (by omega)
      obtain ⟨t, _, _, e, _⟩ := hr1 i y hy _ hs
      exact ⟨t, e⟩
    refine ⟨_, rfl, D, ys, rfl, SqL.of hD1, for_it (walk_enum (K := K) (a := D) (xs := ys)) (fun i σ H' => Same H1 H' ∧ ∃ x2 x3, σ = [some v, some (.ref D), x2, x3, none]) ⟨Same.refl H1, _, _, rfl⟩ (fun i σ H' _ q => SqL.of (q.1 _ _ hD1)) ?_ ?_⟩
    · rintro i _ _ H2 H3 hi ⟨s2, x2, x3, rfl⟩ ⟨T', x, y, rfl, hT, rfl, ex, ey⟩
      cases ex
      obtain ⟨t, rfl⟩ := isAt i y ey
      exact ⟨T', _, rfl, SqT.of upd_same, rfl, _, _, rfl, _, _, rfl, rfl, _, rfl, _, rfl, iteN (by intro z; cases z) ⟨same_ch s2 (s2.free hT), _, _, rfl⟩⟩
    · rintro _ H2 ⟨s2, x2, x3, rfl⟩
      refine ⟨_, rfl, fin D H2 (s1.trans s2) ⟨ys, s2 _ _ hD1, by omega, fun i y s hy hs => (hr1 i y hy s hs).up s2⟩⟩
theorem scBars : FnScope ["one", "other", "plain"] ["one", "other"] (defScope sBars) := ⟨rfl, rfl, rfl, by decide +kernel, rfl, by decide +kernel, by decide +kernel⟩
theorem ok_bars {f fP fB : Addr} {fd fdP fdB : FuncData} (F : Fun K "bars" "bars" sBars f fd) (aPlain : At K mg "plain_sights" fP fdP ["things"]) (aBarE : At K mg "bar_each_other" fB fdB ["one", "other"])
    (GPlain : FnOk P w K mg base CX0 7 fP fdP ["things"] spPlain) (GBarE : FnOk P w K mg base CX0 7 fB fdB ["one", "other"] spBarE) : FnOk P w K mg base CX0 8 f fd ["one", "other"] spBars := by
  refine F.ok scBars (fun vs H Q E h => ?_) (fun cdv A outer s H vs Q E hr h => ?_)
  · obtain ⟨v, v', s, s', rfl, _⟩ := h
    rfl
  · obtain ⟨v, v', s, s', rfl, S1, S2, ok, ok', fin⟩ := h
    refine ⟨_, pss_cons (ps_set (i := 2) scBars.nd rfl (Or.inl rfl) (pe_call GPlain (hr.mono (by decide)) rfl aPlain.m aPlain.k aPlain.b .nil pass0 (pa_cons (pe_lst (pa_cons (pv 0) (pa_cons (pv 1) pa_nil))) pa_nil)))
            (pss_one (ps_ret (pe_call GBarE (hr.mono (by decide)) rfl aBarE.m aBarE.k aBarE.b .nil pass0 (pa_cons (pe_ix ix_list (pv 2) pe_int (fun _ _ => rfl)) (pa_cons (pe_ix ix_list (pv 2) pe_int (fun _ _ => rfl)) pa_nil))))), ?_⟩
    refine ⟨_, rfl, _, rfl, by show 2 ≤ sizeLine; decide, fun a ha => ⟨.ref a, [v, v'], [s, s'], rfl, ⟨a, rfl, .inr upd_same⟩, rfl, (by show 2 ≤ 1000; decide), ?_, ?_, fun D H1 s1 hD => ?_⟩⟩
    · intro i x y hx hy
      match i, hx, hy with
      | 0, hx, hy => cases hx; cases hy; exact S1.up (same_mk ha)
      | 1, hx, hy => cases hx; cases hy; exact S2.up (same_mk ha)
    · intro x hx
      rcases List.mem_cons.mp hx with e | e
      · rw [e]; exact ok.1
      · rw [List.mem_singleton.mp e]; exact ok'.1
    · obtain ⟨ys, h1, h2, h3⟩ := hD
      match ys, h2 with
      | [y, y'], _ =>
        exact ⟨_, rfl, D, _, 0, _, rfl, rfl, SqL.of h1, atI_nat (j := 0) rfl, _, rfl, D, _, 1, _, rfl, rfl, SqL.of h1, atI_nat (j := 1) rfl, y, y', s, s', rfl, h3 0 _ _ rfl rfl, h3 1 _ _ rfl rfl, ok, ok', fun H2 s2 => fin H2 ((same_mk ha).trans (s1.trans s2))⟩
end
end G

set_option maxHeartbeats 3900000
namespace CB
open PySem PySem.Spec PyProof.Rows L2 PyProof.V
/-! two rules that were lacking: a text times 0 or 1; setdefault by a tuple -/
def rMulS : R2 := fun x y H Q => ∃ (z : Str) (b : Bool), x = .str z ∧ y = .int (b2i b) ∧ z.length ≤ sizeLine ∧ Q (.str (if b = true then z else "")) H
section
variable {X : Cx}
theorem op_mulS : OpR X (binaryOp .Mult) rMulS := by
  intro pins s σ H x y v u Q I rx ry h
  obtain ⟨z, b, rfl, rfl, hz, q⟩ := h
  obtain ⟨t, rfl⟩ := rx
  obtain ⟨t', rfl⟩ := ry
  cases b with
  | false => exact P.mul_str_none (by decide) (by decide) ⟨.str "", H, I.tok _, ⟨_, rfl⟩, q⟩
  | true =>
    refine P.mul_str (by decide) (fun _ h => by cases h) (fun _ h => by cases h) ?_
    show (Made.val (.str z t)).post _ s
    exact ⟨.str z, H, I, ⟨_, rfl⟩, q⟩
/-- d.setdefault(k, x), k a tuple of texts and ints -/
def rSetdT : V → List V → Hp → VK → Prop := fun x xs H Q => ∃ (a : Addr) (kvs : List (List L2.Key × V)) (k : List L2.Key) (b : Addr) (d : V), x = .ref a ∧ xs = [.ref b, d] ∧ H a = some (.dT kvs) ∧ H b = some (.tup (k.map kV)) ∧ kvs.length < sizeLine ∧
  (∀ v, valV kvs k = some v → Q v H) ∧ (valV kvs k = none → Q d (upd H a (.dT (putK kvs k d))))
theorem mt_setdT (hu : X.A.units + 1 < cLine) : MtR X "dict.setdefault" rSetdT := by
  intro pins s σ H x xs v us Q I rx rxs h
  obtain ⟨a, kvs, k, b, d, rfl, rfl, ha, hb, hl, q1, q2⟩ := h
  cases rx
  obtain ⟨u1, u2, rfl, r1, r2⟩ := vals2 rxs
  cases r1
  obtain ⟨z, hd, xs', rel, dd⟩ := dt_of I.hok ha
  have hz : xs'.length ≤ sizeLine := by
    rw [← Paired.length rel]
    exact z
  refine call_setdefault_heap (knd := tupleKind (mixKind X.prog X.w)) (k := k) (tupleKind_room_in1 hu) (key_of I.hok hb) hd dd (fun p hp => ?_) (fun hn h' dd' hs => ?_) hz
  · have r := rel.val k
    rw [hp] at r
    obtain ⟨v0, ev, rv⟩ : ∃ v0, valV kvs k = some v0 ∧ RelV v0 p.2 := by
      cases ev : valV kvs k with
      | none =>
        rw [ev] at r
        exact (show False from r).elim
      | some v0 =>
        rw [ev] at r
        exact ⟨v0, rfl, r⟩
    exact ⟨v0, H, I.tok _, rv, q1 v0 ev⟩
  · have r := rel.val k
    rw [hn] at r
    have e : valV kvs k = none := by
      cases ev : valV kvs k with
      | none => rfl
      | some v0 =>
        rw [ev] at r
        exact (show False from r).elim
    obtain ⟨o, es, ep, hq, h2, h3, h4, _, h5⟩ := dd'
    have hl2 : (putK kvs k d).length ≤ sizeLine := by
      have := length_putK kvs k d
      omega
    refine ⟨d, _, d_write (ob := .dT (putK kvs k d)) I (by rw [ha]; exact True.intro) hs ⟨o, hq⟩ ⟨hl2, hd, _, (rel.put k hb r2).keeps fun c ys ec => ?_, o, es, ep, hq, h2, h3, h4, h5⟩, r2, q2 e⟩
    rw [upd_ne (ne_of ec ha (fun z => nomatch z))]
    exact ec
variable {K0 : PySem.W.Frag}
theorem len_seqK (hK : X.K = K0) : CallR X (.builtin "len") (fun xs H Q => ∃ p ys, xs = [V.ref p] ∧ (SqL K0 H p ys ∨ SqT K0 H p ys) ∧ Q (V.int (ys.length : Int)) H) := by
  subst hK
  exact call_len_seq
theorem sl_listK (hK : X.K = K0) : SlR X (rSlL K0) := by
  subst hK
  exact sl_list
def tJoinK (K0 : PySem.W.Frag) (to te : TE) : TE := tM1 (fun x xs H Q => ∃ a p, ∃ ys : List Str, x = .str a ∧ xs = [.ref p] ∧ (SqL K0 H p (ys.map V.str) ∨ SqT K0 H p (ys.map V.str)) ∧ (ys.map (·.length)).sum + ys.length * a.length ≤ 16777216 ∧ Q (.str (Txt.join a ys)) H) to te
theorem pe_joinK {o e : Expr} {to te : TE} {apos pos : Pos} (hK : X.K = K0) (ho : PE X o to) (he : PE X e te) (h1 : starEach [e] X.env = [(false, eval e X.env)] := by rfl) (h2 : attributeBase o "join" X.env (eval o X.env) = eval o X.env := by rfl)
    (h3 : (apos.endLine == pos.line) = true := by rfl) : PE X (.Call (.Attribute o "join" apos) [e] [] pos) (tJoinK K0 to te) := by
  subst hK
  exact pe_join ho he h1 h2 h3
end
end CB

set_option maxHeartbeats 3900000
namespace G
open PySem PySem.Spec PyProof.Rows L2 TL
open C8 (pss_cut tCut pe_gc)
open CB
abbrev sBeneath : Stmt := top 42
abbrev sSome : Stmt := top 46
theorem er_perm : ∀ (l : List Str) (m : Nat) (h : m < l.length), (l[m] :: l.eraseIdx m).Perm l
  | x :: r, 0, _ => List.Perm.refl _
  | x :: r, m + 1, h => by
    have hm : m < r.length := by simpa using h
    have ih := er_perm r m hm
    show (r[m]'hm :: x :: r.eraseIdx m).Perm (x :: r)
    exact (List.Perm.swap x (r[m]'hm) (r.eraseIdx m)).trans (List.Perm.cons x ih)
theorem er_map : ∀ (l : List Str) (m : Nat), (l.map V.str).eraseIdx m = (l.eraseIdx m).map V.str
  | [], _ => rfl
  | _ :: _, 0 => rfl
  | x :: r, m + 1 => by
    show V.str x :: (r.map V.str).eraseIdx m = V.str x :: (r.eraseIdx m).map V.str
    rw [er_map r m]
def spMixed : Sp := fun vs H Q _ => ∃ (st l p : Addr) (c : Nat) (zs : List Str), vs = [.ref st, .ref p] ∧ Strm H st l c ∧ c ≤ 900000 ∧ Pool H st l p zs ∧ zs.length < 1000 ∧
  ∀ (D : Addr) (ys : List Str) (H' : Hp), ys.Perm zs → H D = none → Pool H' st l D ys → But st l H H' → Strm H' st l (c + zs.length) → Q (.ref D) H'
def spBeneath : Sp := fun vs H Q _ => ∃ p q, vs = [.str (js p), .str (js q)] ∧ Nms p ∧ Nms q ∧ q.length ≤ 100 ∧ p.length ≤ 100 ∧ ∀ H', Same H H' → Q (.bl (ben p q)) H'
/-- looks in a list -/
def LksL (H : Hp) (D : Addr) (ks : List Lk) : Prop := ∃ vs : List V, H D = some (.lst vs) ∧ vs.length = ks.length ∧ ∀ (i : Nat) (v : V) (k : Lk), vs[i]? = some v → ks[i]? = some k → ∃ t, v = .ref t ∧ H t = some (.tup (lkV k))
def spLooks : Sp := fun vs H Q _ => ∃ (st l p : Addr) (c : Nat) (zs : List Str) (many : Int), vs = [.ref st, .ref p, .int many] ∧ Strm H st l c ∧ c ≤ 700000 ∧ Pool H st l p zs ∧ 0 < zs.length ∧ zs.length < 1000 ∧ (∀ z ∈ zs, IsNm z) ∧ 0 ≤ many ∧ many ≤ 100 ∧
  ∀ (D : Addr) (ks : List Lk) (H' : Hp) (c' : Nat), (ks.length : Int) ≤ many → (∀ k ∈ ks, LkOn zs 3 k) → H D = none → LksL H' D ks → But st l H H' → Strm H' st l c' → c' ≤ c + 6 * many.toNat → Q (.ref D) H'
/-- an answer with few names out of some -/
def AnOn (zs : List Str) : An → Prop
  | .no => True
  | .tx z => Okz z
  | .es l => (∀ e ∈ l, e.1 ∈ zs) ∧ l.length ≤ 20
def spSome : Sp := fun vs H Q _ => ∃ (st l p t : Addr) (c : Nat) (zs : List Str) (k : Lk), vs = [.ref st, .ref p, .ref t] ∧ Strm H st l c ∧ c ≤ 700000 ∧ Pool H st l p zs ∧ zs.Nodup ∧ 0 < zs.length ∧ zs.length < 20 ∧ (∀ z ∈ zs, IsNm z) ∧ H t = some (.tup (lkV k)) ∧ LkW k ∧
  ∀ (v : V) (a : An) (H' : Hp) (c' : Nat), AnAt H' v a → AnOk k a → AnOn zs a → But st l H H' → Strm H' st l c' → c' ≤ c + 60 → Q v H'
section
variable {P : Program} {w : World} {K : PySem.W.Frag} {mg : Str → Option Value} {base : Heap} {fD fP fPa fFr fMx fTe fLo : Addr} {fdD fdP fdPa fdFr fdMx fdTe fdLo : FuncData}
theorem scMx : FnScope ["_law_stream", "_law_things", "_law_left", "_law_k"] ["_law_stream", "_law_things"] (defScope sMixed) := ⟨rfl, rfl, rfl, by decide +kernel, rfl, by decide +kernel, by decide +kernel⟩
theorem ok_mixed {f : Addr} {fd : FuncData} (F : Fun K "_law_mixed" "_law_mixed" sMixed f fd) (T : TB mg) (aD : aD' K mg fD fdD) (GD : FnOk P w K mg base CX0 1 fD fdD ["_law_stream", "_law_many"] spDraw) : FnOk P w K mg base CX0 2 f fd ["_law_stream", "_law_things"] spMixed := by
  refine F.ok scMx (fun vs H Q E h => ?_) (fun cdv A outer s H vs Q E hr h => ?_)
  · obtain ⟨st, l, p, c, zs, rfl, _⟩ := h
    rfl
  · obtain ⟨st, l, p, c, zs, rfl, S, hc, L, z1, k⟩ := h
    refine ⟨_, pss_cons (ps_set (i := 2) scMx.nd rfl (Or.inr rfl) (pe_callTy call_list_of (by rfl) T.list (by decide +kernel) (pa_cons (pv 1) pa_nil)))
            (pss_one (ps_ret (pe_lc (own := [("_law_k", 3)]) (g := gName 3) (tt := tYes) rfl scMx.nd (pi_range1 rfl T.range (pa_cons (pe_callB call_len_seq (by rfl) T.len PySem.boot_len (pa_cons (pv 2) pa_nil)) pa_nil)) (blkOk_by (own := [("_law_k", 3)]) (N := ["_law_stream", "_law_things", "_law_left", "_law_k"]) (sc := defScope sMixed) (by decide +kernel)) (fun _ _ _ _ _ => (pg_name (i := 3) scMx.nd rfl (Or.inl rfl))) (fun _ _ _ _ _ => pts_nil) (fun _ _ _ _ _ => (by exact (pe_bmK K rfl PySem.F.plainAttrs_list PySem.F.slot_list_pop PySem.F.type_list_pop mt_popAt (pv 2) (pa_cons (pe_call GD (hr.mono (by decide)) rfl aD.m aD.k aD.b .nil pass0 (pa_cons (pv 0) (pa_cons (pe_callB (len_seqK (K0 := K) rfl) (by rfl) T.len PySem.boot_len (pa_cons (pv 2) pa_nil)) pa_nil))) pa_nil))))))), ?_⟩
    refine ⟨_, rfl, p, _, rfl, .inl (SqL.of L.h), fun u hu => ?_⟩
    have nu := S.ne_new hu
    have S0 := S.up (same_mk (o := .lst (zs.map V.str)) hu)
    refine ⟨_, rfl, u, _, rfl, .inl (SqL.of upd_same), _, rfl, by omega, by rw [List.length_map]; omega, fun D hD => ?_⟩
    rw [List.length_map]
    have nD := S0.ne_new hD
    have uD : u ≠ D := ne_of_none upd_same hD
    have s01 : Same H (upd H u (.lst (zs.map V.str))) := same_mk hu
    have hDH : H D = none := s01.free hD
    refine lc_range (lo := 0) (n := ((zs.length : Nat) : Int).toNat) (fun i H' => But st l H H' ∧ Strm H' st l (c + i) ∧ ∃ rem ys : List Str, ys.length = i ∧ (ys ++ rem).Perm zs ∧ H' u = some (.lst (rem.map V.str)) ∧ H' D = some (.lst (ys.map V.str)))
      ⟨But.same (s01.trans (same_mk hD)), S0.up (same_mk hD), zs, [], rfl, List.Perm.refl _, by rw [upd_ne uD]; exact upd_same, upd_same⟩ ?_ ?_
    · rintro i H' hi ⟨B', S', rem, ys, hy, pm, hu', hD'⟩
      have hi' : i < zs.length := by simpa using hi
      have rl : rem.length = zs.length - i := by
        have := pm.length_eq
        rw [List.length_append] at this
        omega
      refine ⟨rfl, _, rfl, .inl ⟨rfl, _, SqL.of hu'⟩, _, rfl, _, rfl, u, _, rfl, .inl (SqL.of hu'), st, l, c + i, _, rfl, S', by omega, by rw [List.length_map]; omega, by rw [List.length_map]; omega, fun d H'' d0 d1 B'' S'' => ?_⟩
      rw [List.length_map] at d1
      obtain ⟨m, rfl⟩ := Int.eq_ofNat_of_zero_le d0
      have hm : m < rem.length := by omega
      have hu2 := B'' _ _ hu' nu.1 nu.2
      have hD2 := B'' _ _ hD' nD.1 nD.2
      have sx : seqIndex? (m : Int) (rem.map V.str).length = some m := by
        rw [List.length_map]
        have h0 : ¬ ((m : Int) < 0) := by omega
        simp [seqIndex?, h0, hm]
      refine ⟨u, _, m, m, .str rem[m], rfl, rfl, hu2, by omega, by omega, sx, by rw [List.getElem?_map, List.getElem?_eq_getElem hm]; rfl, _, by rw [upd_ne uD.symm]; exact hD2, ?_, ?_, ?_, rem.eraseIdx m, ys ++ [rem[m]], ?_, ?_, ?_, ?_⟩
      · rw [List.length_map, hy]
        exact Nat.lt_of_lt_of_le (show i < 1000 by omega) (by decide)
      · intro b o hb n1 n2
        by_cases e1 : b = D
        · rw [e1, hDH] at hb
          cases hb
        · rw [upd_ne e1]
          by_cases e2 : b = u
          · rw [e2, hu] at hb
            cases hb
          · rw [upd_ne e2]
            exact B'' _ _ (B' _ _ hb n1 n2) n1 n2
      · exact (S''.put nu).put nD
      · rw [List.length_append, hy]
        rfl
      · rw [List.append_assoc]
        exact (List.Perm.append_left ys (er_perm rem m hm)).trans pm
      · rw [upd_ne uD, upd_same, er_map]
      · rw [upd_same, List.map_append]
        rfl
    · rintro H' ⟨B', S', rem, ys, hy, pm, hu', hD'⟩
      have hy' : ys.length = zs.length := by simpa using hy
      have rl : rem.length = 0 := by
        have := pm.length_eq
        rw [List.length_append] at this
        omega
      rw [List.length_eq_zero_iff.mp rl, List.append_nil] at pm
      exact k D ys H' pm hDH ⟨hD', nD.1, nD.2⟩ B' (by simpa using S')
theorem scBe : FnScope ["_law_path_here", "_law_other"] ["_law_path_here", "_law_other"] (defScope sBeneath) := ⟨rfl, rfl, rfl, by decide +kernel, rfl, by decide +kernel, by decide +kernel⟩
theorem ok_beneath {f : Addr} {fd : FuncData} (F : Fun K "_law_beneath" "_law_beneath" sBeneath f fd) (T : TB mg) : FnOk P w K mg base CX0 1 f fd ["_law_path_here", "_law_other"] spBeneath := by
  refine F.ok scBe (fun vs H Q E h => ?_) (fun cdv A outer s H vs Q E hr h => ?_)
  · obtain ⟨p, q, rfl, _⟩ := h
    rfl
  · obtain ⟨p, q, rfl, hp, hq, lq, lp, k⟩ := h
    refine ⟨_, pss_one (ps_ret (pe_and (pe_cmpR op_ne (pv 0) pe_str (nomark _)) (pe_one (pe_or (pe_cmpR op_eq (pv 1) pe_str (nomark _)) (pe_one (pe_cmpR op_eq (pe_slice sl_str (pv 0) po_none (po_some (pe_op op_add (pe_callB call_len_str (by rfl) T.len PySem.boot_len (pa_cons (pv 1) pa_nil)) pe_int))) (pe_op op_add_str (pv 1) pe_str) (nomark _))))))), ?_⟩
    have shp := js_sh hp lp
    have shq := js_sh hq lq
    refine ⟨_, rfl, rfl, _, rfl, ?_⟩
    by_cases ep : p = []
    · subst ep
      have e : ben [] q = false := by
        unfold ben
        cases q <;> rfl
      rw [e] at k
      exact iteF (k H (Same.refl H))
    rw [decide_eq_false (show ¬ V.str (js p) = V.str "" from fun z => js_ne hp ep (V.str.inj z))]
    refine iteT ⟨_, rfl, rfl, _, rfl, ?_⟩
    by_cases eq : q = []
    · subst eq
      have e : ben p [] = true := ben_iff.mpr ⟨p, ep, rfl⟩
      rw [e] at k
      exact iteT (k H (Same.refl H))
    rw [decide_eq_false (show ¬ V.str (js q) = V.str "" from fun z => js_ne hq eq (V.str.inj z))]
    have add : (js q).length + ("/" : Str).length ≤ sizeLine := by
      have := shq
      unfold Sh at this
      exact Nat.le_trans (show (js q).length + 1 ≤ 1001 by omega) (by decide)
    refine iteF ⟨_, rfl, _, rfl, _, rfl, shq.line, _, _, rfl, rfl, _, rfl, js p, rfl, shp.line, _, rfl, _, _, rfl, rfl, add, rfl, ?_⟩
    have e := head_bg hp hq eq
    have e2 : decide (V.str (cutS (js p) none (some (((js q).length : Int) + 1))) = V.str (js q ++ "/")) = ben p q := by
      rw [← e, decide_eq_decide]
      exact ⟨fun z => V.str.inj z, fun z => congrArg V.str z⟩
    rw [e2]
    exact k H (Same.refl H)
theorem dp_lks {H : Hp} : ∀ {vs : List V} {ks : List Lk}, vs.length = ks.length → (∀ (i : Nat) (v : V) (k : Lk), vs[i]? = some v → ks[i]? = some k → ∃ t, v = .ref t ∧ H t = some (.tup (lkV k))) → DpAll K H vs (ks.map lkD)
  | [], [], _, _ => .nil
  | [], _ :: _, h, _ => by cases h
  | _ :: _, [], h, _ => by cases h
  | v :: vs, k :: ks, h, a => by
    obtain ⟨t, rfl, ht⟩ := a 0 v k rfl rfl
    exact .cons (lk_dp ht) (dp_lks (Nat.succ.inj h) fun i v' k' hv hk => a (i + 1) v' k' hv hk)
theorem lay_lks : ∀ ks : List Lk, (∀ k ∈ ks, LkW k) → PyData.canLayAll0 (ks.map lkD) = true
  | [], _ => by simp [PyData.canLayAll0]
  | k :: r, h => by
    have h1 : (lkD k).canLay0 = true := lay_strD _ (lkS_ok (h k List.mem_cons_self))
    simp [PyData.canLayAll0, lay_lks r fun y hy => h y (List.mem_cons_of_mem _ hy), h1]
theorem dep_lks : ∀ ks : List Lk, PyData.depthAll (ks.map lkD) ≤ 2
  | [] => by simp [PyData.depthAll]
  | k :: r => by
    have h1 : (lkD k).depth ≤ 2 := dep_strD _
    have := dep_lks r
    simp only [List.map_cons, PyData.depthAll]
    omega
theorem shaped_lks (ks : List Lk) (h : ∀ k ∈ ks, LkW k) : SeqAt.shaped (.list (ks.map lkD)) = true := by
  refine shaped_mk ?_ ?_
  · simp only [PyData.canLay0]
    exact lay_lks ks h
  · have := dep_lks ks
    simp only [PyData.depth]
    omega
theorem lkOn_w {zs : List Str} {m : Nat} {k : Lk} (hz : ∀ z ∈ zs, IsNm z) (hm : m ≤ 100) (h : LkOn zs m k) : LkW k := by
  cases k with
  | rd p => exact ⟨fun y hy => hz y (h.2.2 y hy), Nat.le_trans h.2.1 hm⟩
  | ls p => exact ⟨fun y hy => hz y (h.2 y hy), Nat.le_trans h.1 hm⟩
  | se n => exact hz n h
  | tl => trivial
theorem scLs : FnScope ["_law_stream", "_law_pool_here", "_law_many", "_law_found", "_law_k", "_law_look_here"] ["_law_stream", "_law_pool_here", "_law_many"] (defScope sLooks) := ⟨rfl, rfl, rfl, by decide +kernel, rfl, by decide +kernel, by decide +kernel⟩
theorem ok_looks {f : Addr} {fd : FuncData} (F : Fun K "_law_looks" "_law_looks" sLooks f fd) (T : TB mg) (aLo : At K mg "_law_look" fLo fdLo ["_law_stream", "_law_pool_here"]) (GLo : FnOk P w K mg base CX0 4 fLo fdLo ["_law_stream", "_law_pool_here"] spLook) : FnOk P w K mg base CX0 5 f fd ["_law_stream", "_law_pool_here", "_law_many"] spLooks := by
  refine F.ok scLs (fun vs H Q E h => ?_) (fun cdv A outer s H vs Q E hr h => ?_)
  · obtain ⟨st, l, p, c, zs, many, rfl, _⟩ := h
    rfl
  · obtain ⟨st, l, p, c, zs, many, rfl, S, hc, L, z0, z1, nm, m0, m1, k⟩ := h
    obtain ⟨n, rfl⟩ := Int.eq_ofNat_of_zero_le m0
    have hu5 := hr.un
    have hu5 : (A.deeper (envOfC "_law_looks" (defScope sLooks) s.heap.objs.size f cdv)).units + 65 < cLine := by omega
    refine ⟨_, pss_cons (ps_set (i := 3) scLs.nd rfl (Or.inl rfl) (pe_lst pa_nil))
            (pss_cons (ps_for PassesOwn.never rfl (pi_range1 rfl T.range (pa_cons (pv 2) pa_nil)) (pg_name (i := 4) scLs.nd rfl (Or.inl rfl)) (pss_cons (ps_set (i := 5) scLs.nd rfl (Or.inl rfl) (pe_call GLo (hr.mono (by decide)) rfl aLo.m aLo.k aLo.b .nil pass0 (pa_cons (pv 0) (pa_cons (pv 1) pa_nil))))
            (pss_one (ps_expr (pe_bm PySem.F.plainAttrs_list PySem.F.slot_list_extend PySem.F.type_list_extend mt_extend (pv 3) (pa_cons (pe_op op_rep (pe_lst (pa_cons (pv 5) pa_nil)) (pe_callTy call_int1 (by rfl) T.int (by decide +kernel) (pa_cons (pe_cmpR (op_notInD hu5) (pv 5) (pv 3) (by rfl)) pa_nil))) pa_nil))))))
            (pss_one (ps_ret (pv 3)))), ?_⟩
    refine ⟨Nat.zero_le _, fun D hD => ?_⟩
    have nD := S.ne_new hD
    refine ⟨_, rfl, n, rfl, by omega, by omega, for_range (lo := 0) (n := n) (fun i σ H' => ∃ x4 x5 ks, σ = [some (.ref st), some (.ref p), some (.int n), some (.ref D), x4, x5] ∧ ks.length ≤ i ∧ (∀ k ∈ ks, LkOn zs 3 k) ∧ LksL H' D ks ∧ But st l H H' ∧ ∃ c', Strm H' st l c' ∧ c' ≤ c + 6 * i)
      ⟨none, none, [], rfl, Nat.zero_le _, by simp, ⟨[], upd_same, rfl, fun i v k h => by cases h⟩, But.same (same_mk hD), c, S.up (same_mk hD), by omega⟩ ?_ ?_⟩
    · rintro i _ H1 hi ⟨x4, x5, ks, rfl, hkl, hks, ⟨ws, hw, hwl, hwa⟩, B1, c1, S1, hc1⟩
      refine ⟨_, rfl, _, rfl, st, l, p, c1, zs, rfl, S1, by omega, L.but B1, z0, z1, nm, fun t k' H2 c2 ok' ht0 ht B2 S2 hc2 => ?_⟩
      have hw2 := B2 _ _ hw nD.1 nD.2
      have hwa2 : ∀ (i : Nat) (v : V) (k : Lk), ws[i]? = some v → ks[i]? = some k → ∃ t, v = .ref t ∧ H2 t = some (.tup (lkV k)) := fun i v k hv hk => by
        obtain ⟨t, e, h⟩ := hwa i v k hv hk
        obtain ⟨ns, a, m, ⟨h1, h2⟩, _⟩ := S1.ex
        exact ⟨t, e, B2 _ _ h (ne_of h h1 (by intro z; cases z)) (ne_of h h2 (by intro z; cases z))⟩
      have kw : ∀ k ∈ ks, LkW k := fun k hk => lkOn_w nm (by decide) (hks k hk)
      refine ⟨_, rfl, .inl ⟨rfl, _, SqL.of hw2⟩, _, rfl, by show 1 ≤ sizeLine; decide, fun q hq => ?_⟩
      have sq := same_mk (o := .lst [.ref t]) hq
      have hw3 := sq _ _ hw2
      refine ⟨_, rfl, _, rfl, lkD k', ks.map lkD, lk_dp (sq _ _ ht), .lst (SqL.of hw3) (dp_lks hwl fun i v k hv hk => ?_), lkD_shaped (lkOn_w nm (by decide) ok'), shaped_lks ks kw, .inr ⟨_, rfl, q, _, [.ref t], rfl, rfl, upd_same, ?_⟩⟩
      · obtain ⟨t', e, h⟩ := hwa2 i v k hv hk
        exact ⟨t', e, sq _ _ h⟩
      generalize (!(ks.map lkD).any fun z => PyData.eqv z (lkD k')) = b
      refine ⟨by cases b <;> decide, by cases b <;> decide, by cases b <;> first | exact Nat.zero_le _ | exact (show 1 ≤ sizeLine by decide), fun r hr' => ?_⟩
      have sr := same_mk (o := .lst (List.replicate (if b = true then 1 else 0 : Int).toNat [V.ref t]).flatten) hr'
      have hw4 := sr _ _ hw3
      have nq := S2.ne_new hq
      have S3 := S2.up sq
      have nr := S3.ne_new hr'
      have Dr : D ≠ r := ne_of_none hw3 hr'
      have HD : H D = none := hD
      have wl : ws.length ≤ 100 := by omega
      refine ⟨D, r, ws, _, rfl, rfl, hw4, upd_same, ?_, _, _, if b = true then ks ++ [k'] else ks, rfl, ?_, ?_, ⟨ws ++ (List.replicate (if b = true then 1 else 0 : Int).toNat [V.ref t]).flatten, upd_same, ?_, ?_⟩, ?_, c2, ?_, by omega⟩
      · cases b
        · exact Nat.le_trans (show ws.length + 0 ≤ 101 by omega) (by decide)
        · exact Nat.le_trans (show ws.length + 1 ≤ 101 by omega) (by decide)
      · cases b
        · exact Nat.le_succ_of_le hkl
        · show (ks ++ [k']).length ≤ i + 1
          rw [List.length_append]
          exact Nat.succ_le_succ hkl
      · intro x hx
        cases b
        · exact hks x hx
        · rcases List.mem_append.mp hx with e | e
          · exact hks x e
          · rw [List.mem_singleton.mp e]
            exact ok'
      · cases b
        · show (ws ++ []).length = ks.length
          rw [List.append_nil, hwl]
        · show (ws ++ [V.ref t]).length = (ks ++ [k']).length
          rw [List.length_append, List.length_append, hwl]
          rfl
      · have up : ∀ t' k, H2 t' = some (.tup (lkV k)) → upd (upd (upd H2 q (.lst [.ref t])) r (.lst (List.replicate (if b = true then 1 else 0 : Int).toNat [V.ref t]).flatten)) D (.lst (ws ++ (List.replicate (if b = true then 1 else 0 : Int).toNat [V.ref t]).flatten)) t' = some (.tup (lkV k)) := fun t' k h => by
          rw [upd_ne (ne_of h hw2 (by intro z; cases z))]
          exact sr _ _ (sq _ _ h)
        intro m v k'' hv hk
        cases b
        · have hv : (ws ++ [])[m]? = some v := hv
          rw [List.append_nil] at hv
          obtain ⟨t', e, h⟩ := hwa2 m v k'' hv hk
          exact ⟨t', e, up _ _ h⟩
        · have hv : (ws ++ [V.ref t])[m]? = some v := hv
          have hk : (ks ++ [k'])[m]? = some k'' := hk
          by_cases e : m < ws.length
          · rw [List.getElem?_append_left e] at hv
            rw [List.getElem?_append_left (by omega)] at hk
            obtain ⟨t', e, h⟩ := hwa2 m v k'' hv hk
            exact ⟨t', e, up _ _ h⟩
          · rw [List.getElem?_append_right (by omega)] at hv hk
            have := (List.getElem?_eq_some_iff.mp hv).1
            rw [List.length_singleton] at this
            have e0 : m - ws.length = 0 := by omega
            have e1 : m - ks.length = 0 := by omega
            rw [e0] at hv
            rw [e1] at hk
            cases hv
            cases hk
            exact ⟨t, rfl, up _ _ ht⟩
      · intro x o hx n1 n2
        have xD : x ≠ D := fun z => by
          rw [z, HD] at hx
          cases hx
        rw [upd_ne xD]
        exact sr _ _ (sq _ _ (B2 _ _ (B1 _ _ hx n1 n2) n1 n2))
      · exact (S3.up sr).put nD
    · rintro _ H2 ⟨x4, x5, ks, rfl, hkl, hks, hL, B2, c2, S2, hc2⟩
      exact ⟨_, rfl, k D ks H2 c2 (by omega) hks hD hL B2 S2 (by omega)⟩
end
end G

set_option maxHeartbeats 3900000
namespace G
open PySem PySem.Spec PyProof.Rows L2 TL
open C8 (pss_cut tCut pe_gc)
open CB
theorem lt_tri : ∀ a b : List Nat, a < b ∨ a = b ∨ b < a
  | [], [] => .inr (.inl rfl)
  | [], y :: b => .inl (List.nil_lt_cons y b)
  | x :: a, [] => .inr (.inr (List.nil_lt_cons x a))
  | x :: a, y :: b => by
    rcases Nat.lt_trichotomy x y with h | h | h
    · exact .inl (List.cons_lt_cons_iff.mpr (.inl h))
    · subst h
      rcases lt_tri a b with g | g | g
      · exact .inl (List.cons_lt_cons_iff.mpr (.inr ⟨rfl, g⟩))
      · exact .inr (.inl (by rw [g]))
      · exact .inr (.inr (List.cons_lt_cons_iff.mpr (.inr ⟨rfl, g⟩)))
    · exact .inr (.inr (List.cons_lt_cons_iff.mpr (.inl h)))
theorem lt_tr : ∀ a b c : List Nat, a < b → b < c → a < c := fun _ _ _ h g => List.lt_trans h g
theorem rising_pw : ∀ (p : Str) (l : List Str), risingS p l = true → (p :: l).Nodup → (p :: l).Pairwise (fun a b : Str => a.cps.toList < b.cps.toList)
  | p, [], _, _ => List.pairwise_singleton _ _
  | p, x :: r, h, nd => by
    have h : (!ltCps x.cps.toList p.cps.toList && risingS x r) = true := h
    rw [Bool.and_eq_true] at h
    obtain ⟨h1, h2⟩ := h
    rw [ltCps_eq] at h1
    have nd2 := List.nodup_cons.mp nd
    have ih := rising_pw x r h2 nd2.2
    have px : p.cps.toList < x.cps.toList := by
      rcases lt_tri p.cps.toList x.cps.toList with g | g | g
      · exact g
      · exact absurd (by rw [ext_tl g]; exact List.mem_cons_self) nd2.1
      · rw [decide_eq_true g] at h1
        cases h1
    refine List.pairwise_cons.mpr ⟨fun y hy => ?_, ih⟩
    rcases List.mem_cons.mp hy with e | e
    · rw [e]
      exact px
    · exact lt_tr _ _ _ px ((List.pairwise_cons.mp ih).1 y e)
theorem sorted_pw {l : List Str} (h : sortedS l = true) (nd : l.Nodup) : l.Pairwise (fun a b : Str => a.cps.toList < b.cps.toList) := by
  cases l with
  | nil => exact .nil
  | cons p r => exact rising_pw p r h nd
theorem cut_take (xs : List V) (d : Nat) : cutV xs none (some (d : Int)) = xs.take d := by
  show (xs.drop (HT.sIx xs.length 0 none)).take (HT.sIx xs.length xs.length (some (d : Int)) - HT.sIx xs.length 0 none) = xs.take d
  rw [HT.sIx_none, HT.sIx_nat, List.drop_zero, Nat.sub_zero]
  by_cases h : d ≤ xs.length
  · rw [Nat.min_eq_left h]
  · rw [Nat.min_eq_right (by omega), List.take_of_length_le (Nat.le_refl _), List.take_of_length_le (by omega)]
section
variable {P : Program} {w : World} {K : PySem.W.Frag} {mg : Str → Option Value} {base : Heap} {fD fP fPa fFr fMx fTe fLo : Addr} {fdD fdP fdPa fdFr fdMx fdTe fdLo : FuncData}
theorem scSo : FnScope ["_law_stream", "_law_pool_here", "_law_look_here", "_law_names", "_law_found", "_law_name"] ["_law_stream", "_law_pool_here", "_law_look_here"] (defScope sSome) := ⟨rfl, rfl, rfl, by decide +kernel, rfl, by decide +kernel, by decide +kernel⟩
theorem ok_some {f : Addr} {fd : FuncData} (F : Fun K "_law_some_answer" "_law_some_answer" sSome f fd) (T : TB mg) (aD : aD' K mg fD fdD) (aMx : At K mg "_law_mixed" fMx fdMx ["_law_stream", "_law_things"]) (aTe : At K mg "_law_text" fTe fdTe ["_law_stream"])
    (GD : FnOk P w K mg base CX0 1 fD fdD ["_law_stream", "_law_many"] spDraw) (GMx : FnOk P w K mg base CX0 2 fMx fdMx ["_law_stream", "_law_things"] spMixed) (GTe : FnOk P w K mg base CX0 2 fTe fdTe ["_law_stream"] spText) : FnOk P w K mg base CX0 3 f fd ["_law_stream", "_law_pool_here", "_law_look_here"] spSome := by
  refine F.ok scSo (fun vs H Q E h => ?_) (fun cdv A outer s H vs Q E hr h => ?_)
  · obtain ⟨st, l, p, t, c, zs, k, rfl, _⟩ := h
    rfl
  · have hu := hr.units
    obtain ⟨st, l, p, t, c, zs, k, rfl, S, hc, L, znd, z0, z1, nm, ht, kw, fin⟩ := h
    refine ⟨_, pss_cons (ps_if (pt_cmpR op_eq (pe_ix ix_tup (pv 2) pe_int (fun _ _ => rfl)) pe_str (nomark _)) (pss_cut (ps_if (PW.pt (pw_and (pt_cmpR op_ne (pe_ix ix_tup (pv 2) pe_int (fun _ _ => rfl)) pe_str (nomark _)) (pw_and1 (pt_cmpR op_eq (pe_call GD (hr.mono (by decide)) rfl aD.m aD.k aD.b .nil pass0 (pa_cons (pv 0) (pa_cons pe_int pa_nil))) pe_int (nomark _))))) (pss_one (ps_ret pe_non)) (pss_nil))
            (pss_cons (ps_set (i := 3) scSo.nd rfl (Or.inl rfl) (pe_callB cr_sortedS (by rfl) T.sorted (by decide +kernel) (pa_cons (pe_slice sl_list (pe_call GMx (hr.mono (by decide)) rfl aMx.m aMx.k aMx.b .nil pass0 (pa_cons (pv 0) (pa_cons (pv 1) pa_nil))) po_none (po_some (pe_call GD (hr.mono (by decide)) rfl aD.m aD.k aD.b .nil pass0 (pa_cons (pv 0) (pa_cons pe_int pa_nil))))) pa_nil)))
            (pss_cons (ps_set (i := 4) scSo.nd rfl (Or.inl rfl) (pe_callTy call_tuple_of (by rfl) T.tuple (by decide +kernel) (pa_cons (pe_lc (own := [("_law_name", 5)]) (g := gName 5) (tt := tYes) rfl scSo.nd (pi_list (pv 3)) (blkOk_by (own := [("_law_name", 5)]) (N := ["_law_stream", "_law_pool_here", "_law_look_here", "_law_names", "_law_found", "_law_name"]) (sc := defScope sSome) (by decide +kernel)) (fun _ _ _ _ _ => (pg_name (i := 5) scSo.nd rfl (Or.inl rfl))) (fun _ _ _ _ _ => pts_nil) (fun _ _ _ _ _ => (by exact (pe_op op_add_str (pv 5) (pe_ix (ix_listK (K0 := K) rfl) (pe_lst (pa_cons pe_str (pa_cons pe_str pa_nil))) (pe_call GD (hr.mono (by decide)) rfl aD.m aD.k aD.b .nil pass0 (pa_cons (pv 0) (pa_cons pe_int pa_nil))) (fun _ _ => rfl)))))) pa_nil)))
            (pss_one (ps_ret (pe_ifExp (PW.pt (pw_or (pt_cmpR (op_neD hu) (pv 4) (pe_tup pa_nil) (nomark _)) (pw_or1 (pt_cmpR op_eq (pe_ix ix_tup (pv 2) pe_int (fun _ _ => rfl)) pe_str (nomark _))))) (pv 4) (pe_tup (pa_cons (pe_ix ix_list (pv 1) pe_int (fun _ _ => rfl)) pa_nil)))))))) (pss_nil))
            (pss_cons (ps_if (PW.pt (pw_and (pt_cmpR op_ne (pe_ix ix_tup (pv 2) pe_int (fun _ _ => rfl)) pe_str (nomark _)) (pw_and1 (pt_cmpR op_eq (pe_call GD (hr.mono (by decide)) rfl aD.m aD.k aD.b .nil pass0 (pa_cons (pv 0) (pa_cons pe_int pa_nil))) pe_int (nomark _))))) (pss_one (ps_ret pe_non)) (pss_nil))
            (pss_one (ps_ret (pe_ifExp (pt_cmpR op_eq (pe_ix ix_tup (pv 2) pe_int (fun _ _ => rfl)) pe_str (nomark _)) (pe_ix ix_list (pe_lst (pa_cons pe_str (pa_cons pe_str (pa_cons pe_str pa_nil)))) (pe_call GD (hr.mono (by decide)) rfl aD.m aD.k aD.b .nil pass0 (pa_cons (pv 0) (pa_cons pe_int pa_nil))) (fun _ _ => rfl)) (pe_call GTe (hr.mono (by decide)) rfl aTe.m aTe.k aTe.b .nil pass0 (pa_cons (pv 0) pa_nil)))))), ?_⟩
    have nt : t ≠ st ∧ t ≠ l := by
      obtain ⟨ns, a, m, ⟨h1, h2⟩, _⟩ := S.ex
      exact ⟨ne_of ht h1 (by intro z; cases z), ne_of ht h2 (by intro z; cases z)⟩
    have tx_ok : ∀ z ∈ texts, Okz z := by decide +kernel
    by_cases isl : ∃ q, k = .ls q
    · obtain ⟨q, rfl⟩ := isl
      -- a folder
      refine ⟨_, rfl, t, _, 0, _, rfl, rfl, SqT.of ht, atI_nat (j := 0) rfl, rfl, _, rfl, iteY rfl ?_⟩
      -- if look[1] != '' and draw(3) == 0: return None
      refine ⟨fun σ H1 => σ = [some (.ref st), some (.ref p), some (.ref t), none, none, none] ∧ But st l H H1 ∧ ∃ c1, Strm H1 st l c1 ∧ c1 ≤ c + 1, ⟨_, rfl, t, _, 1, _, rfl, rfl, SqT.of ht, atI_nat (j := 1) rfl, rfl, _, rfl, ?_⟩, ?_⟩
      · by_cases eq : q = []
        · subst eq
          exact iteF ⟨rfl, fun _ _ e _ _ => e, c, S, by omega⟩
        · rw [decide_eq_false (show ¬ V.str (js q) = V.str "" from fun z => js_ne kw.1 eq (V.str.inj z))]
          refine iteT ⟨_, rfl, st, l, c, _, rfl, S, by omega, by decide, by decide, fun d H1 d0 d1 B1 S1 => ⟨rfl, _, rfl, ite2 (fun _ => ?_) (fun _ => ⟨rfl, B1, c + 1, S1, by omega⟩)⟩⟩
          exact fin .non .no H1 (c + 1) rfl eq trivial B1 S1 (by omega)
      rintro _ H1 ⟨rfl, B1, c1, S1, hc1⟩
      -- names = sorted(mixed(..)[:draw(3)])
      refine ⟨_, rfl, _, rfl, st, l, p, c1, zs, rfl, S1, by omega, L.but B1, by omega, fun D ys H2 pm hD LD B2 S2 => ⟨_, rfl, st, l, c1 + zs.length, _, rfl, S2, by omega, by decide, by decide, fun d H3 d0 d1 B3 S3 => ?_⟩⟩
      obtain ⟨n, rfl⟩ := Int.eq_ofNat_of_zero_le d0
      have LD3 := LD.but B3
      refine ⟨_, rfl, D, _, rfl, SqL.of LD3.h, fun u hu => ?_⟩
      rw [cut_take, ← List.map_take]
      have su := same_mk (o := .lst ((ys.take n).map V.str)) hu
      have ynd : ys.Nodup := pm.nodup_iff.mpr znd
      refine ⟨u, ys.take n, rfl, SqL.of upd_same, ?_, fun xs p' pm' so hp' => ?_⟩
      · rw [List.length_take]
        omega
      have xnd : xs.Nodup := pm'.nodup_iff.mpr (ynd.sublist (List.take_sublist n ys))
      have xlen : xs.length ≤ 2 := by
        have := pm'.length_eq
        rw [List.length_take] at this
        omega
      have xz : ∀ x ∈ xs, x ∈ zs := fun x hx => pm.mem_iff.mp (List.mem_of_mem_take (pm'.mem_iff.mp hx))
      have xpw := sorted_pw so xnd
      have sp := same_mk (o := .lst (xs.map V.str)) hp'
      have B4 : But st l H1 (upd (upd H3 u (.lst ((ys.take n).map V.str))) p' (.lst (xs.map V.str))) := ((B2.trans B3).trans (But.same su)).trans (But.same sp)
      have S4 := (S3.up su).up sp
      have np' := (S3.up su).ne_new hp'
      -- found = tuple([name + ['', '/'][draw(2)] for name in names])
      refine ⟨_, rfl, p', rfl, ⟨_, SqL.of upd_same⟩, fun D2 hD2 => ?_⟩
      have nD2 := S4.ne_new hD2
      have hp4 : (upd (upd H3 u (.lst ((ys.take n).map V.str))) p' (.lst (xs.map V.str))) p' = some (.lst (xs.map V.str)) := upd_same
      generalize hH4 : (upd (upd H3 u (.lst ((ys.take n).map V.str))) p' (.lst (xs.map V.str))) = H4 at *
      have pD2 : p' ≠ D2 := ne_of_none hp4 hD2
      refine lc_list (K := K) (a := p') (xs := xs.map V.str) (fun i H' => But st l H4 H' ∧ Strm H' st l (c1 + zs.length + 1 + i) ∧ ∃ bs : List (Str × Bool), bs.map Prod.fst = xs.take i ∧ H' D2 = some (.lst (bs.map entV)))
        ⟨But.same (same_mk hD2), S4.up (same_mk hD2), [], rfl, upd_same⟩ (fun i H' _ q => SqL.of (q.1 _ _ hp4 np'.1 np'.2)) ?_ ?_
      · rintro i x H5 hx ⟨B5, S5, bs, hbs, hb5⟩
        rw [List.getElem?_map] at hx
        match hxi : xs[i]? with
        | none =>
          rw [hxi] at hx
          cases hx
        | some y =>
          rw [hxi] at hx
          cases hx
          have hi := (List.getElem?_eq_some_iff.mp hxi).1
          have ny : IsNm y := nm y (xz y (List.mem_of_getElem? hxi))
          refine ⟨wipe1 _, _, rfl, by show 2 ≤ sizeLine; decide, fun r hr' => ⟨_, rfl, st, l, c1 + zs.length + 1 + i, _, rfl, S5.up (same_mk hr'), by omega, by decide, by decide, fun d H6 e0 e1 B6 S6 => ?_⟩⟩
          have nr := S5.ne_new hr'
          have hr6 := B6 _ _ upd_same nr.1 nr.2
          have hb6 := B6 _ _ (same_mk (o := .lst [.str "", .str "/"]) hr' _ _ hb5) nD2.1 nD2.2
          have done : ∀ b : Bool, ∃ acc, H6 D2 = some (.lst acc) ∧ acc.length < sizeLine ∧ (But st l H4 (upd H6 D2 (.lst (acc ++ [.str (ent y b)]))) ∧ Strm (upd H6 D2 (.lst (acc ++ [.str (ent y b)]))) st l (c1 + zs.length + 1 + (i + 1)) ∧
              ∃ bs : List (Str × Bool), bs.map Prod.fst = xs.take (i + 1) ∧ upd H6 D2 (.lst (acc ++ [.str (ent y b)])) D2 = some (.lst (bs.map entV))) := fun b => by
            have bl : bs.length ≤ 2 := by
              have := congrArg List.length hbs
              rw [List.length_map, List.length_take] at this
              omega
            refine ⟨_, hb6, ?_, ((B5.trans (But.same (same_mk hr'))).trans B6).put hD2, (by have := S6.put (p := D2) (o := .lst (bs.map entV ++ [.str (ent y b)])) nD2; exact this), bs ++ [(y, b)], ?_, ?_⟩
            · rw [List.length_map]
              exact Nat.lt_of_lt_of_le (show bs.length < 3 by omega) (by decide)
            · rw [List.map_append, hbs, List.take_succ, hxi]
              rfl
            · rw [upd_same, List.map_append]
              rfl
          obtain ⟨m, rfl⟩ := Int.eq_ofNat_of_zero_le e0
          have n8 := ny.2.1
          match m, e1 with
          | 0, _ =>
            refine ⟨r, _, _, _, rfl, rfl, SqL.of hr6, atI_nat (j := 0) rfl, y, "", rfl, rfl, Nat.le_trans (show y.length + 0 ≤ 8 by omega) (by decide), ?_⟩
            rw [show y ++ ("" : Str) = ent y false from ext_tl (by rw [tl_append]; exact List.append_nil _)]
            exact done false
          | 1, _ =>
            refine ⟨r, _, _, _, rfl, rfl, SqL.of hr6, atI_nat (j := 1) rfl, y, "/", rfl, rfl, Nat.le_trans (show y.length + 1 ≤ 9 by omega) (by decide), ?_⟩
            exact done true
          | m + 2, e1 => omega
      rintro H5 ⟨B5, S5, bs, hbs, hb5⟩
      rw [List.length_map] at hbs S5
      rw [List.take_length] at hbs
      have bz : ∀ e ∈ bs, e.1 ∈ xs := fun e he => by
        rw [← hbs]
        exact List.mem_map.mpr ⟨e, he, rfl⟩
      have bl : bs.length ≤ 2 := by
        have := congrArg List.length hbs
        rw [List.length_map] at this
        omega
      have bents : Ents bs := ⟨fun e he => nm _ (xz _ (bz e he)), by rw [hbs]; exact xpw, by omega⟩
      refine ⟨D2, _, rfl, .inl ⟨SqL.of hb5, fun f hf => ?_⟩⟩
      have sf := same_mk (o := .tup (bs.map entV)) hf
      have Bf : But st l H (upd H5 f (.tup (bs.map entV))) := B1.trans ((B4.trans B5).trans (But.same sf))
      have Sf := S5.up sf
      have htf := Bf _ _ ht nt.1 nt.2
      have Lf := L.but Bf
      refine ⟨_, rfl, by exact Nat.zero_le _, fun g hg => ?_⟩
      have sg := same_mk (o := .tup []) hg
      have dpb : Dp K (upd (upd H5 f (.tup (bs.map entV))) g (.tup [])) (.ref f) (anD (.es bs)) := an_dp (a := .es bs) ⟨f, rfl, sg _ _ upd_same⟩
      refine ⟨_, strD [], dpb, .tup (SqT.of (xs := []) upd_same) .nil, anD_shaped ⟨bents.1, by omega⟩, shaped_strs [] (by simp), ?_⟩
      rw [show PyData.eqv (anD (.es bs)) (strD []) = decide (bs = []) by
        show PyData.eqv (strD _) (strD []) = _
        rw [eqv_strD, decide_eq_decide]
        exact List.map_eq_nil_iff]
      have Bg : But st l H (upd (upd H5 f (.tup (bs.map entV))) g (.tup [])) := Bf.trans (But.same sg)
      have Sg := Sf.up sg
      have out : (bs ≠ [] ∨ q = []) → Q (.ref f) (upd (upd H5 f (.tup (bs.map entV))) g (.tup [])) := fun ho => fin (.ref f) (.es bs) _ _ ⟨f, rfl, sg _ _ upd_same⟩ ⟨bents, ho⟩ ⟨fun e he => xz _ (bz e he), by omega⟩ Bg Sg (by omega)
      by_cases eb : bs = []
      · rw [decide_eq_true eb]
        refine ⟨_, rfl, iteF ⟨_, rfl, t, _, 1, _, rfl, rfl, SqT.of (sg _ _ htf), atI_nat (j := 1) rfl, rfl, _, rfl, ?_⟩⟩
        by_cases eq : q = []
        · subst eq
          exact iteY rfl ⟨_, rfl, out (.inr rfl)⟩
        · refine iteN (fun z => js_ne kw.1 eq (V.str.inj z)) ⟨_, rfl, p, zs.map V.str, 0, .str zs[0], rfl, rfl, SqL.of (sg _ _ Lf.h), atI_nat (j := 0) (by rw [List.getElem?_map, List.getElem?_eq_getElem z0]; rfl), by show 1 ≤ sizeLine; decide, fun e he => ?_⟩
          have mz : zs[0] ∈ zs := List.getElem_mem z0
          have se := same_mk (o := .tup [.str zs[0]]) he
          exact fin (.ref e) (.es [(zs[0], false)]) _ _ ⟨e, rfl, upd_same⟩ ⟨⟨fun x hx => by rw [List.mem_singleton.mp hx]; exact nm _ mz, List.pairwise_singleton _ _, (show 1 ≤ 1000 by decide)⟩, .inl (by simp)⟩ ⟨fun x hx => by rw [List.mem_singleton.mp hx]; exact mz, (show 1 ≤ 20 by decide)⟩ (Bg.trans (But.same se)) (Sg.up se) (by omega)
      · rw [decide_eq_false eb]
        exact ⟨_, rfl, iteT ⟨_, rfl, out (.inl eb)⟩⟩
    by_cases ist : k = .tl
    · subst ist
      refine ⟨_, rfl, t, _, 0, _, rfl, rfl, SqT.of ht, atI_nat (j := 0) rfl, rfl, _, rfl, iteN (by decide +kernel) ⟨_, rfl, t, _, 0, _, rfl, rfl, SqT.of ht, atI_nat (j := 0) rfl, rfl, _, rfl, iteF ?_⟩⟩
      refine ⟨_, rfl, t, _, 0, _, rfl, rfl, SqT.of ht, atI_nat (j := 0) rfl, rfl, _, rfl, iteY rfl ⟨by show 3 ≤ sizeLine; decide, fun u hu => ?_⟩⟩
      have nu := S.ne_new hu
      have su := same_mk (o := .lst [.str "", .str "1", .str "2"]) hu
      refine ⟨_, rfl, st, l, c, _, rfl, S.up su, by omega, by decide, by decide, fun d H1 d0 d1 B1 S1 => ?_⟩
      have hu1 := B1 _ _ upd_same nu.1 nu.2
      have d3 : d < (([("" : Str), "1", "2"] : List Str).length : Int) := d1
      obtain ⟨i, z, hi, ha⟩ := at_int (xs := ([("" : Str), "1", "2"] : List Str)) d0 d3
      have hz : Okz z := by
        have := List.mem_of_getElem? hi
        have all : ∀ z ∈ ([("" : Str), "1", "2"] : List Str), Okz z := by decide +kernel
        exact all z this
      exact ⟨u, _, d, .str z, rfl, rfl, SqL.of hu1, at_map (f := V.str) ha, fin (.str z) (.tx z) H1 (c + 1) rfl trivial hz ((But.same su).trans B1) S1 (by omega)⟩
    obtain ⟨wd, r, hkv, n1, n2, o1, o2⟩ : ∃ (wd : Str) (r : List V), lkV k = .str wd :: r ∧ wd ≠ "list" ∧ wd ≠ "tool" ∧ AnOk k .no ∧ ∀ z, AnOk k (.tx z) := by
      cases k with
      | rd q => exact ⟨"read", _, rfl, by decide +kernel, by decide +kernel, trivial, fun _ => trivial⟩
      | ls q => exact absurd ⟨q, rfl⟩ isl
      | se n => exact ⟨"setting", _, rfl, by decide +kernel, by decide +kernel, trivial, fun _ => trivial⟩
      | tl => exact absurd rfl ist
    rw [hkv] at ht
    refine ⟨_, rfl, t, _, 0, _, rfl, rfl, SqT.of ht, atI_nat (j := 0) rfl, rfl, _, rfl, iteN (fun z => n1 (V.str.inj z)) ⟨_, rfl, t, _, 0, _, rfl, rfl, SqT.of ht, atI_nat (j := 0) rfl, rfl, _, rfl, ?_⟩⟩
    rw [decide_eq_false (show ¬ V.str wd = V.str "tool" from fun z => n2 (V.str.inj z))]
    refine iteT ⟨_, rfl, st, l, c, _, rfl, S, by omega, by decide, by decide, fun d H1 d0 d1 B1 S1 => ⟨rfl, _, rfl, ite2 (fun _ => ?_) (fun _ => ?_)⟩⟩
    · exact fin .non .no H1 (c + 1) rfl o1 trivial B1 S1 (by omega)
    · exact ⟨_, rfl, t, _, 0, _, rfl, rfl, SqT.of (B1 _ _ ht nt.1 nt.2), atI_nat (j := 0) rfl, rfl, _, rfl, iteN (fun z => n2 (V.str.inj z)) ⟨_, rfl, st, l, c + 1, rfl, S1, by omega, fun z H2 hz B2 S2 => fin (.str z) (.tx z) H2 (c + 1 + 1) rfl (o2 z) (tx_ok z hz) (B1.trans B2) S2 (by omega)⟩⟩
end
end G

set_option maxHeartbeats 3900000
namespace G
open PySem PySem.Spec PyProof.Rows L2 TL
open C8 (pss_cut tCut pe_gc)
open CB
abbrev sMust : Stmt := top 47
/-! what a world has to have, told by membership -/
def TxtOf : Lk × An → List Str → Prop
  | (.rd _, .no), _ => False
  | (.rd q, _), p => p = q
  | (.ls q, .es l), p => ∃ n, (n, false) ∈ l ∧ p = q ++ [n]
  | _, _ => False
def DirOf : Lk × An → List Str → Prop
  | (.ls q, .es l), p => p = q ∨ ∃ n, (n, true) ∈ l ∧ p = q ++ [n]
  | _, _ => False
def TM (ss : List (Lk × An)) (fi : List (List Str)) (p : List Str) : Prop := p ∈ fi ∨ ∃ s ∈ ss, TxtOf s p
def D0M (ss : List (Lk × An)) (fo : List (List Str)) (p : List Str) : Prop := p = [] ∨ p ∈ fo ∨ ∃ s ∈ ss, DirOf s p
def DM (ss : List (Lk × An)) (fi fo : List (List Str)) (p : List Str) : Prop := D0M ss fo p ∨ (p ≠ [] ∧ ∃ r, (TM ss fi r ∨ D0M ss fo r) ∧ ben r p = true)
def pV (p : List Str) : V := .str (js p)
def pkey (p : List Str) : L2.Key := Sum.inr (js p)
def KA (kvs : List (L2.Key × V)) (B : Nat) (T : List Str → Prop) : Prop := (∀ kv ∈ kvs, ∃ p, kv.1 = pkey p ∧ Nms p ∧ p.length ≤ B) ∧ ∀ p, Nms p → ((valV kvs (pkey p)).isSome = true ↔ T p)
def DA (xs : List (List Str)) (B : Nat) (D : List Str → Prop) : Prop := (∀ p ∈ xs, Nms p ∧ p.length ≤ B) ∧ ∀ p, p ∈ xs ↔ D p
theorem pkey_inj {p q : List Str} (hp : Nms p) (hq : Nms q) : pkey p = pkey q ↔ p = q := ⟨fun e => js_inj hp hq (Sum.inr.inj e), fun e => by rw [e]⟩
theorem KA.iff {kvs : List (L2.Key × V)} {B : Nat} {T T' : List Str → Prop} (h : KA kvs B T) (e : ∀ p, Nms p → (T p ↔ T' p)) : KA kvs B T' := ⟨h.1, fun p hp => (h.2 p hp).trans (e p hp)⟩
theorem KA.put {kvs : List (L2.Key × V)} {B : Nat} {T : List Str → Prop} (h : KA kvs B T) {p : List Str} (hp : Nms p) (hl : p.length ≤ B) (v : V) : KA (putK kvs (pkey p) v) B (fun x => T x ∨ x = p) := by
  refine ⟨fun kv hkv => ?_, fun x hx => ?_⟩
  · unfold putK at hkv
    by_cases a : (kvs.any fun kv => decide (kv.1 = pkey p)) = true
    · rw [if_pos a] at hkv
      obtain ⟨kv', h1, rfl⟩ := List.mem_map.mp hkv
      by_cases e : kv'.1 = pkey p
      · rw [if_pos e]
        exact h.1 kv' h1
      · rw [if_neg e]
        exact h.1 kv' h1
    · rw [if_neg a] at hkv
      rcases List.mem_append.mp hkv with g | g
      · exact h.1 kv g
      · rw [List.mem_singleton.mp g]
        exact ⟨p, rfl, hp, hl⟩
  · rw [valV_put]
    by_cases e : x = p
    · subst e
      rw [if_pos rfl]
      exact ⟨fun _ => .inr rfl, fun _ => rfl⟩
    · rw [if_neg fun z => e ((pkey_inj hx hp).mp z), h.2 x hx]
      exact ⟨.inl, fun z => z.resolve_right e⟩
theorem KA.keys : ∀ {kvs : List (L2.Key × V)} {B : Nat}, (∀ kv ∈ kvs, ∃ p, kv.1 = pkey p ∧ Nms p ∧ p.length ≤ B) → ∃ tp : List (List Str), (kvs.map fun kv => kV kv.1) = tp.map pV ∧ tp.length = kvs.length ∧ (∀ p ∈ tp, Nms p ∧ p.length ≤ B) ∧ ∀ p, p ∈ tp → (valV kvs (pkey p)).isSome = true
  | [], _, _ => ⟨[], rfl, rfl, by simp, by simp⟩
  | kv :: r, B, h => by
    obtain ⟨tp, h1, h2, h3, h4⟩ := KA.keys (kvs := r) (B := B) fun x hx => h x (List.mem_cons_of_mem _ hx)
    obtain ⟨p, e, hp, hl⟩ := h kv List.mem_cons_self
    refine ⟨p :: tp, ?_, by rw [List.length_cons, List.length_cons, h2], ?_, ?_⟩
    · rw [List.map_cons, List.map_cons, h1, e]
      rfl
    · intro x hx
      rcases List.mem_cons.mp hx with g | g
      · rw [g]
        exact ⟨hp, hl⟩
      · exact h3 x g
    · intro x hx
      by_cases q : kv.1 = pkey x
      · rw [valV_pos q]
        rfl
      · rw [valV_neg q]
        rcases List.mem_cons.mp hx with g | g
        · exact absurd (by rw [e, g]) q
        · exact h4 x g
theorem KA.has : ∀ {kvs : List (L2.Key × V)} {tp : List (List Str)} {p : List Str}, (kvs.map fun kv => kV kv.1) = tp.map pV → (valV kvs (pkey p)).isSome = true → (∀ x ∈ tp, Nms x) → Nms p → p ∈ tp
  | [], _, _, _, h, _, _ => by cases h
  | kv :: r, [], _, e, _, _, _ => by cases e
  | kv :: r, x :: tp, p, e, h, n, hp => by
    simp only [List.map_cons, List.cons.injEq] at e
    by_cases q : kv.1 = pkey p
    · rw [q] at e
      have e1 : V.str (js p) = V.str (js x) := e.1
      rw [js_inj hp (n x List.mem_cons_self) (V.str.inj e1)]
      exact List.mem_cons_self
    · rw [valV_neg q] at h
      exact List.mem_cons_of_mem _ (KA.has e.2 h (fun y hy => n y (List.mem_cons_of_mem _ hy)) hp)
theorem DA.iff {xs : List (List Str)} {B : Nat} {D D' : List Str → Prop} (h : DA xs B D) (e : ∀ p, D p ↔ D' p) : DA xs B D' := ⟨h.1, fun p => (h.2 p).trans (e p)⟩
theorem DA.app {xs ys : List (List Str)} {B : Nat} {D : List Str → Prop} (h : DA xs B D) (hy : ∀ p ∈ ys, Nms p ∧ p.length ≤ B) : DA (xs ++ ys) B (fun x => D x ∨ x ∈ ys) :=
  ⟨fun p hp => (List.mem_append.mp hp).elim (h.1 p) (hy p), fun p => by rw [List.mem_append, h.2 p]⟩
/-- the dict and the list of folders while they grow -/
def MS (H H' : Hp) (d e : Addr) (T D : List Str → Prop) (n : Nat) : Prop := Same H H' ∧ ∃ (kvs : List (L2.Key × V)) (dp : List (List Str)), H' d = some (.dK kvs) ∧ KA kvs 40 T ∧ kvs.length ≤ n ∧ H' e = some (.lst (dp.map pV)) ∧ DA dp 40 D ∧ dp.length ≤ n
theorem MS.iff {H H' : Hp} {d e : Addr} {T T' D D' : List Str → Prop} {n m : Nat} (h : MS H H' d e T D n) (t : ∀ p, Nms p → (T p ↔ T' p)) (g : ∀ p, D p ↔ D' p) (hn : n ≤ m) : MS H H' d e T' D' m := by
  obtain ⟨s, kvs, dp, h1, h2, h3, h4, h5, h6⟩ := h
  exact ⟨s, kvs, dp, h1, h2.iff t, by omega, h4, h5.iff g, by omega⟩
theorem MS.up {H H' H'' : Hp} {d e : Addr} {T D : List Str → Prop} {n : Nat} (h : MS H H' d e T D n) (s : Same H' H'') : MS H H'' d e T D n := by
  obtain ⟨s0, kvs, dp, h1, h2, h3, h4, h5, h6⟩ := h
  exact ⟨s0.trans s, kvs, dp, s _ _ h1, h2, h3, s _ _ h4, h5, h6⟩
/-- sizes: what a list of sights is to keep to -/
def Sz (s : Lk × An) : Prop := (match s.1 with | .rd p => p.length ≤ 20 | .ls p => p.length ≤ 20 | _ => True) ∧ (match s.2 with | .es l => l.length ≤ 20 | _ => True)
def spMust : Sp := fun vs H Q _ => ∃ (a b c : Addr) (ss : List (Lk × An)) (fi fo : List (List Str)), vs = [.ref a, .ref b, .ref c] ∧ SisL H a ss ∧ (∀ s ∈ ss, SiOk' s ∧ Sz s) ∧ ss.length ≤ 20 ∧ H b = some (.lst (fi.map pV)) ∧ (∀ p ∈ fi, Nms p ∧ p.length ≤ 40) ∧ fi.length ≤ 100 ∧ H c = some (.lst (fo.map pV)) ∧ (∀ p ∈ fo, Nms p ∧ p.length ≤ 40) ∧ fo.length ≤ 100 ∧
  ∀ (t d e : Addr) (kvs : List (L2.Key × V)) (dp : List (List Str)) (H' : Hp), Same H H' → H d = none → H e = none → H' t = some (.tup [.ref d, .ref e]) → H' d = some (.dK kvs) → KA kvs 40 (TM ss fi) → kvs.length ≤ 100000 → H' e = some (.lst (dp.map pV)) → DA dp 40 (DM ss fi fo) → dp.length ≤ 100000 → Q (.ref t) H'
section
variable {P : Program} {w : World} {K : PySem.W.Frag} {mg : Str → Option Value} {base : Heap}
theorem scMu : FnScope ["_law_sights", "_law_files", "_law_folders", "_law_texts", "_law_dirs", "_law_path_here", "_law_look_here", "_law_answer", "_law_entry", "_law_parts", "_law_k"] ["_law_sights", "_law_files", "_law_folders"] (defScope sMust) := ⟨rfl, rfl, rfl, by decide +kernel, rfl, by decide +kernel, by decide +kernel⟩
theorem ok_must {f : Addr} {fd : FuncData} (F : Fun K "_law_must" "_law_must" sMust f fd) (T : TB mg) : FnOk P w K mg base CX0 1 f fd ["_law_sights", "_law_files", "_law_folders"] spMust := by
  refine F.ok scMu (fun vs H Q E h => ?_) (fun cdv A outer s H vs Q E hr h => ?_)
  · obtain ⟨a, b, c, ss, fi, fo, rfl, _⟩ := h
    rfl
  · have hu := hr.units
    have hu1 : (A.deeper (envOfC "_law_must" (defScope sMust) s.heap.objs.size f cdv)).units + 1 < cLine := by omega
    obtain ⟨a, b, c, ss, fi, fo, rfl, ⟨vs, ha, hal, hav⟩, hok, hss, hb, hfi, hfil, hc, hfo, hfol, fin⟩ := h
    refine ⟨_, pss_cons (ps_par (i := 3) (j := 4) (by rfl) scMu.nd rfl rfl (by decide) rfl rfl (pa_cons pe_dnewK (pa_cons (pe_lst (pa_cons pe_str pa_nil)) pa_nil)) (by rfl))
            (pss_cons (ps_for PassesOwn.never rfl (pi_list (pv 1)) (pg_name (i := 5) scMu.nd rfl (Or.inl rfl)) (pss_one (ps_dput hu1 (pv 3) (pv 5) pe_non rfl)))
            (pss_cons (ps_for PassesOwn.never rfl (pi_list (pv 0)) (pg_tup rfl (pgs_cons (pg_name (i := 6) scMu.nd rfl (Or.inl rfl)) (pgs_cons (pg_name (i := 7) scMu.nd rfl (Or.inl rfl)) pgs_nil))) (pss_cut (ps_if (PW.pt (pw_and (pt_cmpR op_eq (pe_ix ix_tup (pv 6) pe_int (fun _ _ => rfl)) pe_str (nomark _)) (pw_and1 (pt_cmp (pc_notN (pv 7)))))) (pss_one (ps_dput hu1 (pv 3) (pe_ix ix_tup (pv 6) pe_int (fun _ _ => rfl)) (pv 7) rfl)) (pss_nil))
            (pss_one (ps_if (PW.pt (pw_and (pt_cmpR op_eq (pe_ix ix_tup (pv 6) pe_int (fun _ _ => rfl)) pe_str (nomark _)) (pw_and1 (pt_cmp (pc_notN (pv 7)))))) (pss_cons (ps_expr (pe_bm PySem.F.plainAttrs_list PySem.F.slot_list_append PySem.F.type_list_append mt_append (pv 4) (pa_cons (pe_ix ix_tup (pv 6) pe_int (fun _ _ => rfl)) pa_nil)))
            (pss_one (ps_for PassesOwn.never rfl (pi_tup (pv 7)) (pg_name (i := 8) scMu.nd rfl (Or.inl rfl)) (pss_cons (ps_set (i := 5) scMu.nd rfl (Or.inl rfl) (pe_op op_add_str (pe_op op_add_str (pe_ix ix_tup (pv 6) pe_int (fun _ _ => rfl)) (pe_op op_mulS pe_str (pe_callTy call_int1 (by rfl) T.int (by decide +kernel) (pa_cons (pe_cmpR op_ne (pe_ix ix_tup (pv 6) pe_int (fun _ _ => rfl)) pe_str (nomark _)) pa_nil)))) (pe_bm PySem.F.plainAttrs_str PySem.F.slot_str_strip PySem.F.type_str_strip mt_stripChars (pv 8) (pa_cons pe_str pa_nil))))
            (pss_one (ps_if (pt_cmpR op_eq (pe_slice sl_str (pv 8) (po_some (pe_un un_neg pe_int)) po_none) pe_str (nomark _)) (pss_one (ps_expr (pe_bm PySem.F.plainAttrs_list PySem.F.slot_list_append PySem.F.type_list_append mt_append (pv 4) (pa_cons (pv 5) pa_nil)))) (pss_one (ps_expr (pe_dsetd (pv 3) (pv 5) pe_non ⟨rfl, rfl, rfl, rfl⟩))))))))) (pss_nil)))))
            (pss_cons (ps_for PassesOwn.never rfl (pi_list (pe_op op_cat (pe_op op_cat (pe_callTy (call_list_dK rfl) (by rfl) T.list (by decide +kernel) (pa_cons (pv 3) pa_nil)) (pv 4)) (pe_callTy call_list_of (by rfl) T.list (by decide +kernel) (pa_cons (pv 2) pa_nil)))) (pg_name (i := 5) scMu.nd rfl (Or.inl rfl)) (pss_cons (ps_set (i := 9) scMu.nd rfl (Or.inr rfl) (pe_bm PySem.F.plainAttrs_str PySem.F.slot_str_split PySem.F.type_str_split mt_split (pv 5) (pa_cons pe_str pa_nil)))
            (pss_one (ps_expr (pe_bm PySem.F.plainAttrs_list PySem.F.slot_list_extend PySem.F.type_list_extend mt_extend (pv 4) (pa_cons (pe_lc (own := [("_law_k", 10)]) (g := gName 10) (tt := tYes) rfl scMu.nd (pi_range2 rfl T.range (pa_cons pe_int (pa_cons (pe_callB call_len_seq (by rfl) T.len PySem.boot_len (pa_cons (pv 9) pa_nil)) pa_nil))) (blkOk_by (own := [("_law_k", 10)]) (N := ["_law_sights", "_law_files", "_law_folders", "_law_texts", "_law_dirs", "_law_path_here", "_law_look_here", "_law_answer", "_law_entry", "_law_parts", "_law_k"]) (sc := defScope sMust) (by decide +kernel)) (fun _ _ _ _ _ => (pg_name (i := 10) scMu.nd rfl (Or.inl rfl))) (fun _ _ _ _ _ => pts_nil) (fun _ _ _ _ _ => (by exact (pe_joinK (K0 := K) rfl pe_str (pe_slice (sl_listK (K0 := K) rfl) (pv 9) po_none (po_some (pv 10))))))) pa_nil))))))
            (pss_one (ps_ret (pe_tup (pa_cons (pv 3) (pa_cons (pe_op op_cat (pv 4) (pe_callTy call_list_of (by rfl) T.list (by decide +kernel) (pa_cons (pv 2) pa_nil))) pa_nil)))))))), ?_⟩
    refine fun d hd => ⟨by show 1 ≤ sizeLine; decide, fun e he => ⟨_, _, rfl, ?_⟩⟩
    have sd := same_mk (o := .dK []) hd
    have heH : H e = none := sd.free he
    have de : d ≠ e := ne_of_none upd_same he
    have nd : ∀ {x : Addr} {o : HO}, H x = some o → x ≠ d ∧ x ≠ e := fun {x o} hx => ⟨ne_of_none hx hd, ne_of_none hx heH⟩
    have m0 : MS H (upd (upd H d (.dK [])) e (.lst [.str ""])) d e (fun _ => False) (fun x => x = []) 1 := by
      refine ⟨sd.trans (same_mk he), [], [[]], by rw [upd_ne de]; exact upd_same, ⟨by simp, fun p _ => ⟨fun z => (nomatch z), False.elim⟩⟩, by decide, upd_same, ⟨fun p hp => ?_, fun p => by simp⟩, by decide⟩
      rw [List.mem_singleton.mp hp]
      exact ⟨by simp [Nms], by decide⟩
    -- stores
    have put : ∀ (H' : Hp) (T D : List Str → Prop) (n : Nat) (p : List Str) (v : V), MS H H' d e T D n → n ≤ 1000 → Nms p → p.length ≤ 40 → ∃ kvs, H' d = some (.dK kvs) ∧ kvs.length < sizeLine ∧ KA kvs 40 T ∧ MS H (upd H' d (.dK (putK kvs (pkey p) v))) d e (fun x => T x ∨ x = p) D (n + 1) := by
      rintro H' T D n p v ⟨s0, kvs, dp, h1, h2, h3, h4, h5, h6⟩ hn hp hl
      refine ⟨kvs, h1, Nat.lt_of_lt_of_le (show kvs.length < 1001 by omega) (by decide), h2, same_ch s0 hd, putK kvs (pkey p) v, dp, upd_same, h2.put hp hl v, ?_, by rw [upd_ne de.symm]; exact h4, h5, by omega⟩
      have := length_putK kvs (pkey p) v
      omega
    have app : ∀ (H' : Hp) (T D : List Str → Prop) (n : Nat) (ps : List (List Str)), MS H H' d e T D n → (∀ p ∈ ps, Nms p ∧ p.length ≤ 40) → ∃ dp : List (List Str), H' e = some (.lst (dp.map pV)) ∧ dp.length ≤ n ∧ MS H (upd H' e (.lst (dp.map pV ++ ps.map pV))) d e T (fun x => D x ∨ x ∈ ps) (n + ps.length) := by
      rintro H' T D n ps ⟨s0, kvs, dp, h1, h2, h3, h4, h5, h6⟩ hps
      refine ⟨dp, h4, h6, same_ch s0 heH, kvs, dp ++ ps, by rw [upd_ne de]; exact h1, h2, by omega, by rw [upd_same, List.map_append], h5.app hps, by rw [List.length_append]; omega⟩
    -- for path_here in files
    refine ⟨_, rfl, b, rfl, ⟨_, SqL.of ((sd.trans (same_mk he)) _ _ hb)⟩, for_it (walk_list (K := K) (a := b) (xs := fi.map pV)) (fun i σ H' => ∃ x5, σ = [some (.ref a), some (.ref b), some (.ref c), some (.ref d), some (.ref e), x5, none, none, none, none, none] ∧ MS H H' d e (fun x => x ∈ fi.take i) (fun x => x = []) (1 + i))
      ⟨none, rfl, m0.iff (fun p _ => by simp) (fun p => Iff.rfl) (by omega)⟩ (fun i σ H' _ q => by obtain ⟨_, _, m⟩ := q; exact SqL.of (m.1 _ _ hb)) ?_ ?_⟩
    · rintro i x _ _ H1 hi ⟨x5, rfl, m1⟩ ⟨rfl, hx⟩
      rw [List.length_map] at hi
      rw [List.getElem?_map, List.getElem?_eq_getElem hi] at hx
      cases hx
      obtain ⟨hp, hl⟩ := hfi fi[i] (List.getElem_mem hi)
      obtain ⟨kvs, k1, k2, _, m2⟩ := put H1 _ _ _ fi[i] .non m1 (by omega) hp hl
      refine ⟨_, rfl, _, rfl, d, _, rfl, DPut.k (k := pkey fi[i]) k1 k2, _, rfl, m2.iff (fun p _ => ?_) (fun p => Iff.rfl) (by omega)⟩
      rw [List.take_succ, List.getElem?_eq_getElem hi, List.mem_append]
      simp
    rintro _ H1 ⟨x5, rfl, m1⟩
    rw [List.length_map, List.take_length] at m1
    -- for look_here, answer in sights
    have a1 := m1.1 _ _ ha
    refine ⟨_, rfl, a, rfl, ⟨_, SqL.of a1⟩, for_it (walk_list (K := K) (a := a) (xs := vs)) (fun i σ H' => ∃ x5 x6 x7 x8, σ = [some (.ref a), some (.ref b), some (.ref c), some (.ref d), some (.ref e), x5, x6, x7, x8, none, none] ∧ MS H H' d e (fun x => x ∈ fi ∨ ∃ s ∈ ss.take i, TxtOf s x) (fun x => x = [] ∨ ∃ s ∈ ss.take i, DirOf s x) (101 + 22 * i))
      ⟨x5, none, none, none, rfl, m1.iff (fun p _ => by simp) (fun p => by simp) (by omega)⟩ (fun i σ H' _ q => by obtain ⟨_, _, _, _, _, m⟩ := q; exact SqL.of (m.1 _ _ ha)) ?_ ?_⟩
    · rintro i x _ _ H2 hi ⟨x5, x6, x7, x8, rfl, m2⟩ ⟨rfl, hx⟩
      have his : i < ss.length := by omega
      have hsi : ss[i]? = some ss[i] := List.getElem?_eq_getElem his
      obtain ⟨ok, sz⟩ := hok ss[i] (List.getElem_mem his)
      have S0 := hav i x ss[i] hx hsi
      have tk : ss.take (i + 1) = ss.take i ++ [ss[i]] := by
        rw [List.take_succ, hsi]
        rfl
      generalize ss[i] = s0 at *
      obtain ⟨k, an⟩ := s0
      obtain ⟨t, u, va, rfl, h1, h2, h3⟩ := S0
      have h1' := m2.1 _ _ h1
      have h2' := m2.1 _ _ h2
      have eT : ∀ x, (x ∈ fi ∨ ∃ s ∈ ss.take (i + 1), TxtOf s x) ↔ ((x ∈ fi ∨ ∃ s ∈ ss.take i, TxtOf s x) ∨ TxtOf (k, an) x) := fun x => by
        rw [tk]
        simp only [List.mem_append, List.mem_singleton]
        constructor
        · rintro (g | ⟨s, g | g, q⟩)
          · exact .inl (.inl g)
          · exact .inl (.inr ⟨s, g, q⟩)
          · rw [g] at q
            exact .inr q
        · rintro ((g | ⟨s, g, q⟩) | q)
          · exact .inl g
          · exact .inr ⟨s, .inl g, q⟩
          · exact .inr ⟨_, .inr rfl, q⟩
      have eD : ∀ x, (x = [] ∨ ∃ s ∈ ss.take (i + 1), DirOf s x) ↔ ((x = [] ∨ ∃ s ∈ ss.take i, DirOf s x) ∨ DirOf (k, an) x) := fun x => by
        rw [tk]
        simp only [List.mem_append, List.mem_singleton]
        constructor
        · rintro (g | ⟨s, g | g, q⟩)
          · exact .inl (.inl g)
          · exact .inl (.inr ⟨s, g, q⟩)
          · rw [g] at q
            exact .inr q
        · rintro ((g | ⟨s, g, q⟩) | q)
          · exact .inl g
          · exact .inr ⟨s, .inl g, q⟩
          · exact .inr ⟨_, .inr rfl, q⟩
      generalize hT : (fun x => x ∈ fi ∨ ∃ s ∈ ss.take i, TxtOf s x) = T0 at m2
      generalize hD0 : (fun x => x = [] ∨ ∃ s ∈ ss.take i, DirOf s x) = D0 at m2
      have eT : ∀ x, (x ∈ fi ∨ ∃ s ∈ ss.take (i + 1), TxtOf s x) ↔ (T0 x ∨ TxtOf (k, an) x) := fun x => by
        rw [← hT]
        exact eT x
      have eD : ∀ x, (x = [] ∨ ∃ s ∈ ss.take (i + 1), DirOf s x) ↔ (D0 x ∨ DirOf (k, an) x) := fun x => by
        rw [← hD0]
        exact eD x
      refine ⟨t, _, rfl, SqT.of h1', rfl, _, _, rfl, _, _, rfl, rfl, ?_⟩
      refine ⟨fun σ H' => σ = [some (.ref a), some (.ref b), some (.ref c), some (.ref d), some (.ref e), x5, some (.ref u), some va, x8, none, none] ∧ MS H H' d e (fun x => T0 x ∨ (∃ q, k = .rd q ∧ TxtOf (k, an) x)) D0 (101 + 22 * i + 1), ?_, ?_⟩
      · -- the first if
        cases k with
        | rd q =>
          refine ⟨_, rfl, u, _, 0, _, rfl, rfl, SqT.of h2', atI_nat (j := 0) rfl, rfl, _, rfl, iteY rfl ?_⟩
          cases an with
          | no =>
            cases (show va = .non from h3)
            exact ⟨_, rfl, _, rfl, iteF ⟨rfl, m2.iff (fun p _ => ⟨.inl, fun z => z.elim id fun ⟨_, _, g⟩ => g.elim⟩) (fun p => Iff.rfl) (by omega)⟩⟩
          | tx z =>
            cases (show va = .str z from h3)
            obtain ⟨kvs, k1, k2, _, m3⟩ := put H2 _ _ _ q (.str z) m2 (by omega) ok.1.1.2.1 (Nat.le_trans sz.1 (by decide))
            exact ⟨_, rfl, _, rfl, iteT ⟨_, rfl, _, rfl, _, rfl, u, _, 1, _, rfl, rfl, SqT.of h2', atI_nat (j := 1) rfl, d, _, rfl, DPut.k (k := pkey q) k1 k2, rfl, m3.iff (fun p _ => ⟨fun z => z.elim .inl fun g => .inr ⟨q, rfl, g⟩, fun z => z.elim .inl fun ⟨_, _, g⟩ => .inr g⟩) (fun p => Iff.rfl) (by omega)⟩⟩
          | es l => exact ok.1.2.elim
        | ls q => exact ⟨_, rfl, u, _, 0, _, rfl, rfl, SqT.of h2', atI_nat (j := 0) rfl, rfl, _, rfl, iteN (by decide +kernel) ⟨rfl, m2.iff (fun p _ => ⟨.inl, fun z => z.elim id fun ⟨_, g, _⟩ => nomatch g⟩) (fun p => Iff.rfl) (by omega)⟩⟩
        | se n => exact ⟨_, rfl, u, _, 0, _, rfl, rfl, SqT.of h2', atI_nat (j := 0) rfl, rfl, _, rfl, iteN (by decide +kernel) ⟨rfl, m2.iff (fun p _ => ⟨.inl, fun z => z.elim id fun ⟨_, g, _⟩ => nomatch g⟩) (fun p => Iff.rfl) (by omega)⟩⟩
        | tl => exact ⟨_, rfl, u, _, 0, _, rfl, rfl, SqT.of h2', atI_nat (j := 0) rfl, rfl, _, rfl, iteN (by decide +kernel) ⟨rfl, m2.iff (fun p _ => ⟨.inl, fun z => z.elim id fun ⟨_, g, _⟩ => nomatch g⟩) (fun p => Iff.rfl) (by omega)⟩⟩
      rintro _ H3 ⟨rfl, m3⟩
      have h2'' := m3.1 _ _ h2
      -- the second if: none of a folder
      have skip : (∀ q l, ¬ ((k, an) : Lk × An) = (.ls q, .es l)) → MS H H3 d e (fun x => x ∈ fi ∨ ∃ s ∈ ss.take (i + 1), TxtOf s x) (fun x => x = [] ∨ ∃ s ∈ ss.take (i + 1), DirOf s x) (101 + 22 * (i + 1)) := fun g => by
        refine m3.iff (fun p _ => ?_) (fun p => ?_) (by omega)
        · rw [eT p]
          refine ⟨fun z => z.elim .inl fun ⟨_, _, q⟩ => .inr q, fun z => z.elim .inl fun q => ?_⟩
          cases k with
          | rd q' => exact .inr ⟨q', rfl, q⟩
          | ls q' =>
            cases an with
            | es l => exact absurd rfl (g q' l)
            | no => exact q.elim
            | tx z => exact q.elim
          | se n => cases an <;> exact q.elim
          | tl => cases an <;> exact q.elim
        · rw [eD p]
          refine ⟨.inl, fun z => z.elim id fun q => ?_⟩
          cases k with
          | ls q' =>
            cases an with
            | es l => exact absurd rfl (g q' l)
            | no => exact q.elim
            | tx z => exact q.elim
          | rd q' => cases an <;> exact q.elim
          | se n => cases an <;> exact q.elim
          | tl => cases an <;> exact q.elim
      cases k with
      | rd q => exact ⟨_, rfl, u, _, 0, _, rfl, rfl, SqT.of h2'', atI_nat (j := 0) rfl, rfl, _, rfl, iteN (by decide +kernel) ⟨_, _, _, _, rfl, skip fun _ _ z => nomatch z⟩⟩
      | se n => exact ⟨_, rfl, u, _, 0, _, rfl, rfl, SqT.of h2'', atI_nat (j := 0) rfl, rfl, _, rfl, iteN (by decide +kernel) ⟨_, _, _, _, rfl, skip fun _ _ z => nomatch z⟩⟩
      | tl => exact ⟨_, rfl, u, _, 0, _, rfl, rfl, SqT.of h2'', atI_nat (j := 0) rfl, rfl, _, rfl, iteN (by decide +kernel) ⟨_, _, _, _, rfl, skip fun _ _ z => nomatch z⟩⟩
      | ls q =>
        refine ⟨_, rfl, u, _, 0, _, rfl, rfl, SqT.of h2'', atI_nat (j := 0) rfl, rfl, _, rfl, iteY rfl ?_⟩
        cases an with
        | no =>
          cases (show va = .non from h3)
          exact ⟨_, rfl, _, rfl, iteF ⟨_, _, _, _, rfl, skip fun _ _ z => nomatch z⟩⟩
        | tx z => exact ok.1.2.elim
        | es l =>
          obtain ⟨g, rfl, hg⟩ := h3
          have nq : Nms q := ok.1.1.1
          have lq : q.length ≤ 20 := sz.1
          have ll : l.length ≤ 20 := sz.2
          obtain ⟨dp, k1, k2, m4⟩ := app H3 _ _ _ [q] m3 (fun p hp => by rw [List.mem_singleton.mp hp]; exact ⟨nq, Nat.le_trans lq (by decide)⟩)
          refine ⟨_, rfl, _, rfl, iteT ⟨_, rfl, .inl ⟨rfl, _, SqL.of k1⟩, _, rfl, u, _, 1, _, rfl, rfl, SqT.of h2'', atI_nat (j := 1) rfl, e, _, _, rfl, rfl, k1, by rw [List.length_map]; exact Nat.lt_of_lt_of_le (show dp.length < 1000 by omega) (by decide), ?_⟩⟩
          have hg4 := m4.1 _ _ hg
          refine ⟨_, rfl, g, rfl, ⟨_, SqT.of hg4⟩, for_it (walk_tup (K := K) (a := g) (xs := l.map entV)) (fun j σ H' => ∃ x5 x8, σ = [some (.ref a), some (.ref b), some (.ref c), some (.ref d), some (.ref e), x5, some (.ref u), some (.ref g), x8, none, none] ∧ MS H H' d e (fun x => T0 x ∨ ∃ n, (n, false) ∈ l.take j ∧ x = q ++ [n]) (fun x => D0 x ∨ x = q ∨ ∃ n, (n, true) ∈ l.take j ∧ x = q ++ [n]) (101 + 22 * i + 2 + j))
            ⟨x5, x8, rfl, m4.iff (fun p _ => by simp) (fun p => by simp) (by show 101 + 22 * i + 1 + 1 ≤ _; omega)⟩ (fun j σ H' _ q => by obtain ⟨_, _, _, m⟩ := q; exact SqT.of (m.1 _ _ hg)) ?_ ?_⟩
          · rintro j x _ _ H5 hj ⟨y5, y8, rfl, m5⟩ ⟨rfl, hx5⟩
            rw [List.length_map] at hj
            rw [List.getElem?_map, List.getElem?_eq_getElem hj] at hx5
            cases hx5
            have hn : IsNm l[j].1 := ok.1.2.1.1 l[j] (List.getElem_mem hj)
            have tkl : l.take (j + 1) = l.take j ++ [l[j]] := by
              rw [List.take_succ, List.getElem?_eq_getElem hj]
              rfl
            generalize l[j] = ej at *
            obtain ⟨n, bb⟩ := ej
            have hn : IsNm n := hn
            have shq := js_sh nq (Nat.le_trans lq (by decide))
            have shq' : (js q).length ≤ 1000 := shq
            have n8 := hn.2.1
            have elen : (ent n bb).length ≤ 9 := by
              rw [len_tl, tl_ent, List.length_append, ← len_tl]
              cases bb <;> simp <;> omega
            have key : js q ++ (if (!decide (V.str (js q) = V.str "")) = true then ("/" : Str) else "") ++ n = js (q ++ [n]) := by
              by_cases eq : q = []
              · subst eq
                rw [List.nil_append, js_one]
                exact ext_tl (by rw [tl_append, tl_append]; rfl)
              · rw [decide_eq_false (show ¬ V.str (js q) = V.str "" from fun z => js_ne nq eq (V.str.inj z)), js_app eq (by simp), js_one]
                rfl
            have nqn : Nms (q ++ [n]) := nq.app fun y hy => by
              rw [List.mem_singleton.mp hy]
              exact hn
            have lqn : (q ++ [n]).length ≤ 40 := by
              rw [List.length_append]
              show q.length + 1 ≤ 40
              omega
            have h25 := m5.1 _ _ h2
            have len1 : (js q).length + (if (!decide (V.str (js q) = V.str "")) = true then ("/" : Str) else "").length ≤ sizeLine := by
              refine Nat.le_trans (show _ ≤ 1001 from ?_) (by decide)
              have : (if (!decide (V.str (js q) = V.str "")) = true then ("/" : Str) else "").length ≤ 1 := by
                split <;> decide
              omega
            have len2 : (js q ++ (if (!decide (V.str (js q) = V.str "")) = true then ("/" : Str) else "")).length + n.length ≤ sizeLine := by
              refine Nat.le_trans (show _ ≤ 1009 from ?_) (by decide)
              have e1 : (js q ++ (if (!decide (V.str (js q) = V.str "")) = true then ("/" : Str) else "")).length = (js q).length + (if (!decide (V.str (js q) = V.str "")) = true then ("/" : Str) else "").length := by
                rw [len_tl, tl_append, List.length_append, ← len_tl, ← len_tl]
              have : (if (!decide (V.str (js q) = V.str "")) = true then ("/" : Str) else "").length ≤ 1 := by
                split <;> decide
              omega
            refine ⟨_, rfl, u, _, 1, _, rfl, rfl, SqT.of h25, atI_nat (j := 1) rfl, _, rfl, u, _, 1, _, rfl, rfl, SqT.of h25, atI_nat (j := 1) rfl, rfl, .inr ⟨_, rfl, "/", _, rfl, rfl, by decide, _, _, rfl, rfl, len1, _, rfl, rfl, ent n bb, "/", rfl, rfl, Nat.le_trans elen (by decide), ?_⟩⟩
            rw [strip_ent hn]
            refine ⟨_, _, rfl, rfl, len2, ?_⟩
            rw [key]
            refine ⟨_, rfl, _, rfl, _, rfl, ent n bb, rfl, Nat.le_trans elen (by decide), rfl, _, rfl, ?_⟩
            have ce : decide (V.str (cutS (ent n bb) (some (-1)) none) = V.str "/") = bb := by
              rw [← cut_ent hn bb, decide_eq_decide, cut_ent hn bb]
              exact ⟨fun z => V.str.inj z, fun z => congrArg V.str z⟩
            rw [ce]
            cases bb with
            | true =>
              obtain ⟨dp5, k15, k25, m6⟩ := app H5 _ _ _ [q ++ [n]] m5 (fun p hp => by rw [List.mem_singleton.mp hp]; exact ⟨nqn, lqn⟩)
              refine iteT ⟨_, rfl, .inl ⟨rfl, _, SqL.of k15⟩, _, rfl, e, _, _, rfl, rfl, k15, by rw [List.length_map]; exact Nat.lt_of_lt_of_le (show dp5.length < 1000 by omega) (by decide), _, _, rfl, m6.iff (fun p _ => ?_) (fun p => ?_) (by show _ + 1 ≤ _; omega)⟩
              · rw [tkl]
                simp
              · rw [tkl]
                simp [or_assoc, and_or_left, or_and_right, exists_or]
            | false =>
              obtain ⟨kvs5, k15, k25, k35, m6⟩ := put H5 _ _ _ (q ++ [n]) .non m5 (by omega) nqn lqn
              refine iteF ⟨_, rfl, d, rfl, .inl ⟨_, .inl k15⟩, _, rfl, kvs5, pkey (q ++ [n]), k15, rfl, k25, fun v hv => ⟨_, _, rfl, ?_⟩, fun _ => ⟨_, _, rfl, m6.iff (fun p _ => ?_) (fun p => ?_) (by omega)⟩⟩
              · refine m5.iff (fun p hp => ?_) (fun p => ?_) (by omega)
                · have h0 := (k35.2 (q ++ [n]) nqn).mp (by rw [hv]; rfl)
                  rw [tkl]
                  simp only [List.mem_append, List.mem_singleton]
                  constructor
                  · rintro (g | ⟨y, g, z⟩)
                    · exact .inl g
                    · exact .inr ⟨y, .inl g, z⟩
                  · rintro (g | ⟨y, g | g, z⟩)
                    · exact .inl g
                    · exact .inr ⟨y, g, z⟩
                    · rw [z, show y = n from congrArg Prod.fst g]
                      exact h0
                · rw [tkl]
                  simp
              · rw [tkl]
                simp [or_assoc, and_or_left, or_and_right, exists_or]
              · rw [tkl]
                simp
          · rintro _ H5 ⟨y5, y8, rfl, m5⟩
            rw [List.length_map, List.take_length] at m5
            exact ⟨_, _, _, _, rfl, m5.iff (fun p _ => (eT p).symm) (fun p => (eD p).symm) (by omega)⟩
    rintro _ H2 ⟨x5, x6, x7, x8, rfl, m2⟩
    rw [hal, List.take_length] at m2
    -- for path_here in list(texts) + dirs + list(folders)
    obtain ⟨s2, kvs, dp, k1, k2, k3, k4, k5, k6⟩ := m2
    have c2 := s2 _ _ hc
    obtain ⟨tp, e1, e2, e3, e4⟩ := KA.keys k2.1
    have tpT : ∀ p, Nms p → (p ∈ tp ↔ TM ss fi p) := fun p hp => ⟨fun h => (k2.2 p hp).mp (e4 p h), fun h => KA.has e1 ((k2.2 p hp).mpr h) (fun x hx => (e3 x hx).1) hp⟩
    refine ⟨_, rfl, d, kvs, rfl, k1, fun l1 hl1 => ?_⟩
    rw [e1]
    have z1 := same_mk (o := .lst (tp.map pV)) hl1
    refine ⟨_, rfl, l1, e, _, _, rfl, rfl, upd_same, z1 _ _ k4, ?_, fun l2 hl2 => ?_⟩
    · rw [List.length_map, List.length_map]
      exact Nat.le_trans (show tp.length + dp.length ≤ 2000 by omega) (by decide)
    have z2 := same_mk (o := .lst (tp.map pV ++ dp.map pV)) hl2
    have z12 := z1.trans z2
    refine ⟨_, rfl, c, _, rfl, .inl (SqL.of (z12 _ _ c2)), fun l3 hl3 => ?_⟩
    have z3 := same_mk (o := .lst (fo.map pV)) hl3
    refine ⟨l2, l3, _, _, rfl, rfl, z3 _ _ upd_same, upd_same, ?_, fun l4 hl4 => ?_⟩
    · rw [List.length_append, List.length_map, List.length_map, List.length_map]
      exact Nat.le_trans (show tp.length + dp.length + fo.length ≤ 3000 by omega) (by decide)
    have z4 := same_mk (o := .lst (tp.map pV ++ dp.map pV ++ fo.map pV)) hl4
    have z14 := (z12.trans z3).trans z4
    have e4' := z14 _ _ k4
    have l4e : l4 ≠ e := by
      rintro rfl
      rw [(z12.trans z3) _ _ k4] at hl4
      cases hl4
    have l4d : l4 ≠ d := by
      rintro rfl
      rw [(z12.trans z3) _ _ k1] at hl4
      cases hl4
    generalize hall : tp ++ dp ++ fo = all
    have eall : tp.map pV ++ dp.map pV ++ fo.map pV = all.map pV := by rw [← hall, List.map_append, List.map_append]
    rw [eall] at z14 e4' ⊢
    have alln : ∀ p ∈ all, Nms p ∧ p.length ≤ 40 := fun p hp => by
      rw [← hall] at hp
      rcases List.mem_append.mp hp with g | g
      · rcases List.mem_append.mp g with g | g
        · exact e3 p g
        · exact k5.1 p g
      · exact hfo p g
    have alll : all.length ≤ 1500 := by
      rw [← hall, List.length_append, List.length_append]
      omega
    have m3 : MS H (upd (upd (upd (upd H2 l1 (.lst (tp.map pV))) l2 (.lst (tp.map pV ++ dp.map pV))) l3 (.lst (fo.map pV))) l4 (.lst (all.map pV))) d e (TM ss fi) (fun x => x = [] ∨ ∃ s ∈ ss, DirOf s x) 541 :=
      MS.up ⟨s2, kvs, dp, k1, k2, by omega, k4, k5, by omega⟩ z14
    have h4 : (upd (upd (upd (upd H2 l1 (.lst (tp.map pV))) l2 (.lst (tp.map pV ++ dp.map pV))) l3 (.lst (fo.map pV))) l4 (.lst (all.map pV))) l4 = some (.lst (all.map pV)) := upd_same
    have l4H : H l4 = none := by
      cases q : H l4 with
      | none => rfl
      | some o =>
        rw [((s2.trans z12).trans z3) _ _ q] at hl4
        cases hl4
    generalize hH3 : (upd (upd (upd (upd H2 l1 (.lst (tp.map pV))) l2 (.lst (tp.map pV ++ dp.map pV))) l3 (.lst (fo.map pV))) l4 (.lst (all.map pV))) = H3 at *
    refine ⟨l4, rfl, ⟨_, SqL.of h4⟩, for_it (walk_list (K := K) (a := l4) (xs := all.map pV)) (fun i σ H' => ∃ x5 x6 x7 x8 x9, σ = [some (.ref a), some (.ref b), some (.ref c), some (.ref d), some (.ref e), x5, x6, x7, x8, x9, none] ∧ H' l4 = some (.lst (all.map pV)) ∧ MS H H' d e (TM ss fi) (fun x => (x = [] ∨ ∃ s ∈ ss, DirOf s x) ∨ ∃ r ∈ all.take i, x ≠ [] ∧ ben r x = true) (541 + 40 * i))
      ⟨x5, x6, x7, x8, none, rfl, h4, m3.iff (fun p _ => Iff.rfl) (fun p => by simp) (by omega)⟩ (fun i σ H' _ q => by obtain ⟨_, _, _, _, _, _, m, _⟩ := q; exact SqL.of m) ?_ ?_⟩
    · rintro i x _ _ H4 hi ⟨x5, x6, x7, x8, x9, rfl, h44, m4⟩ ⟨rfl, hx⟩
      rw [List.length_map] at hi
      have hai : all[i]? = some all[i] := List.getElem?_eq_getElem hi
      rw [List.getElem?_map, hai] at hx
      cases hx
      obtain ⟨hp, hl⟩ := alln all[i] (List.getElem_mem hi)
      have tk : all.take (i + 1) = all.take i ++ [all[i]] := by
        rw [List.take_succ, hai]
        rfl
      generalize all[i] = p at *
      obtain ⟨ys, sp, ylen, yta⟩ : ∃ ys : List Str, Txt.split (js p) "/" = ys ∧ ys.length = (if p = [] then 1 else p.length) ∧ ∀ k, k + 1 < ys.length → ys.take (k + 1) = p.take (k + 1) := by
        by_cases h : p = []
        · subst h
          exact ⟨[""], by decide +kernel, rfl, fun k hk => absurd hk (by simp)⟩
        · exact ⟨p, split_js hp h, by rw [if_neg h], fun _ _ => rfl⟩
      have shp := js_sh hp (Nat.le_trans hl (by decide))
      refine ⟨_, rfl, rfl, js p, "/", rfl, rfl, rfl, ?_, fun q hq => ?_⟩
      · have := shp
        unfold Sh at this
        exact Nat.le_trans (show (js p).length + 2 ≤ 1002 by omega) (by decide)
      rw [sp]
      have zq := same_mk (o := .lst (ys.map V.str)) hq
      have m5 := m4.up zq
      have h45 := zq _ _ h44
      have hq5 : (upd H4 q (.lst (ys.map V.str))) q = some (.lst (ys.map V.str)) := upd_same
      generalize (upd H4 q (.lst (ys.map V.str))) = H5 at *
      have ylen1 : 1 ≤ ys.length ∧ ys.length ≤ 40 := by
        rw [ylen]
        split
        · decide
        · rename_i h
          have := List.length_pos_iff.mpr h
          omega
      obtain ⟨s5, kvs5, dp5, q1, q2, q3, q4, q5, q6⟩ := m5
      refine ⟨_, rfl, .inl ⟨rfl, _, SqL.of q4⟩, _, rfl, q, _, rfl, .inl (SqL.of hq5), 1, _, rfl, ⟨by decide, by decide, by omega, by rw [List.length_map]; omega⟩, fun D hD => ?_⟩
      rw [List.length_map]
      have nn : ((ys.length : Int) - 1).toNat = ys.length - 1 := by omega
      rw [nn]
      have Dd : ∀ {x o}, H5 x = some o → x ≠ D := fun h => ne_of_none h hD
      refine lcW (walk_range (lo := 1) (n := ys.length - 1)) ((List.range (ys.length - 1)).map fun k => pV (p.take (k + 1))) (by rw [List.length_map, List.length_range]) (by omega) hD (fun _ _ => trivial) ?_ ?_
      · rintro k x y H6 _ hy s6 ⟨rfl, rfl⟩ Q1 k1'
        have hk := (List.getElem?_eq_some_iff.mp hy).1
        rw [List.length_map, List.length_range] at hk
        rw [List.getElem?_map, List.getElem?_range hk] at hy
        cases hy
        refine ⟨⟨_, rfl⟩, _, rfl, _, rfl, 1 + (k : Int), rfl, q, _, rfl, SqL.of (s6 _ _ hq5), fun r hr' => ?_⟩
        rw [show (1 : Int) + (k : Int) = ((k + 1 : Nat) : Int) by omega, cut_take, ← List.map_take, yta k (by omega)]
        have lt : (p.take (k + 1)).length ≤ 40 := by
          rw [List.length_take]
          omega
        have nt : Nms (p.take (k + 1)) := fun y hy => hp y (List.mem_of_mem_take hy)
        refine ⟨_, r, p.take (k + 1), rfl, rfl, .inl (SqL.of upd_same), ?_, k1' _ (same_mk hr')⟩
        have := names_len fun y q => (nt y q).2.1
        have e : (("/" : Str).length) = 1 := by decide
        rw [e]
        omega
      · intro H6 s6 hD6
        have q46 := s6 _ _ q4
        have news : ∀ x ∈ (List.range (ys.length - 1)).map (fun k => p.take (k + 1)), Nms x ∧ x.length ≤ 40 := fun x hx => by
          obtain ⟨k, _, rfl⟩ := List.mem_map.mp hx
          refine ⟨fun y hy => hp y (List.mem_of_mem_take hy), ?_⟩
          rw [List.length_take]
          omega
        have em : ((List.range (ys.length - 1)).map fun k => pV (p.take (k + 1))) = ((List.range (ys.length - 1)).map fun k => p.take (k + 1)).map pV := by
          rw [List.map_map]
          rfl
        rw [em] at hD6
        obtain ⟨dp6, q47, q48, m6⟩ := app H6 _ _ _ _ (MS.up ⟨s5, kvs5, dp5, q1, q2, q3, q4, q5, q6⟩ s6) news
        rw [q47] at q46
        have edp : dp6.map pV = dp5.map pV := HO.lst.inj (Option.some.inj q46)
        have eD : e ≠ D := ne_of_none q4 hD
        have l4e' : H6 l4 = some (.lst (all.map pV)) := s6 _ _ h45
        refine ⟨e, D, _, _, rfl, rfl, q47, hD6, ?_, _, _, _, _, _, rfl, ?_, m6.iff (fun p _ => Iff.rfl) (fun x => ?_) ?_⟩
        · rw [List.length_map, List.length_map, List.length_map, List.length_range]
          exact Nat.le_trans (show dp6.length + (ys.length - 1) ≤ 100000 by omega) (by decide)
        · rw [upd_ne l4e]
          exact l4e'
        · rw [tk]
          have key : x ∈ (List.range (ys.length - 1)).map (fun k => p.take (k + 1)) ↔ (x ≠ [] ∧ ben p x = true) := by
            rw [List.mem_map, ben_iff]
            constructor
            · rintro ⟨k, hk, rfl⟩
              rw [List.mem_range, ylen] at hk
              have hpn : p ≠ [] := by
                rintro rfl
                simp at hk
              rw [if_neg hpn] at hk
              refine ⟨?_, p.drop (k + 1), ?_, (List.take_append_drop _ _).symm⟩
              · intro z
                have := congrArg List.length z
                rw [List.length_take, Nat.min_eq_left (show k + 1 ≤ p.length by omega)] at this
                exact absurd this (by simp)
              · intro z
                have := List.drop_eq_nil_iff.mp z
                omega
            · rintro ⟨hx, r, hr', rfl⟩
              have := List.length_pos_iff.mpr hx
              have := List.length_pos_iff.mpr hr'
              refine ⟨x.length - 1, ?_, ?_⟩
              · rw [List.mem_range, ylen, if_neg (by simp [hx]), List.length_append]
                omega
              · rw [show x.length - 1 + 1 = x.length by omega, List.take_left']
                rfl
          rw [key]
          simp only [List.mem_append, List.mem_singleton]
          constructor
          · rintro ((g | ⟨r, g, z⟩) | z)
            · exact .inl g
            · exact .inr ⟨r, .inl g, z⟩
            · exact .inr ⟨p, .inr rfl, z⟩
          · rintro (g | ⟨r, g | g, z⟩)
            · exact .inl (.inl g)
            · exact .inl (.inr ⟨r, g, z⟩)
            · rw [g] at z
              exact .inr z
        · rw [List.length_map, List.length_range]
          omega
    rintro _ H4 ⟨x5, x6, x7, x8, x9, rfl, _, s4, kvs4, dp4, q1, q2, q3, q4, q5, q6⟩
    rw [List.length_map, List.take_length] at q5
    rw [List.length_map] at q3 q6
    refine ⟨_, rfl, _, rfl, _, rfl, c, _, rfl, .inl (SqL.of (s4 _ _ hc)), fun r1 hr1 => ?_⟩
    have y1 := same_mk (o := .lst (fo.map pV)) hr1
    refine ⟨e, r1, _, _, rfl, rfl, y1 _ _ q4, upd_same, ?_, fun r2 hr2 => ?_⟩
    · rw [List.length_map, List.length_map]
      exact Nat.le_trans (show dp4.length + fo.length ≤ 100000 by omega) (by decide)
    have y2 := same_mk (o := .lst (dp4.map pV ++ fo.map pV)) hr2
    have y12 := (s4.trans y1).trans y2
    refine ⟨by show 2 ≤ sizeLine; decide, fun t ht => ?_⟩
    have y3 := same_mk (o := .tup [.ref d, .ref r2]) ht
    refine fin t d r2 kvs4 (dp4 ++ fo) _ (y12.trans y3) hd ((s4.trans y1).free hr2) upd_same (y3 _ _ (y2 _ _ (y1 _ _ q1))) q2 ?_ ?_ ?_ ?_
    · omega
    · rw [List.map_append]
      exact y3 _ _ upd_same
    · refine (q5.app hfo).iff fun x => ?_
      have tn : ∀ r, TM ss fi r → Nms r := fun r hr' => by
        rcases hr' with g | ⟨s, g, z⟩
        · exact (hfi r g).1
        · obtain ⟨⟨k, an⟩, rfl⟩ : ∃ s', s' = s := ⟨s, rfl⟩
          have ok := (hok _ g).1
          cases k with
          | rd q =>
            cases an with
            | no => exact z.elim
            | tx _ =>
              rw [show r = q from z]
              exact ok.1.1.2.1
            | es l => exact ok.1.2.elim
          | ls q =>
            cases an with
            | no => exact z.elim
            | tx _ => exact z.elim
            | es l =>
              obtain ⟨n, hn, rfl⟩ := z
              exact ok.1.1.1.app fun y hy => by
                rw [List.mem_singleton.mp hy]
                exact ok.1.2.1.1 _ hn
          | se n => cases an <;> exact z.elim
          | tl => cases an <;> exact z.elim
      have ma : ∀ r, r ∈ all ↔ (TM ss fi r ∨ (r = [] ∨ ∃ s ∈ ss, DirOf s r) ∨ r ∈ fo) := fun r => by
        rw [← hall, List.mem_append, List.mem_append, k5.2 r]
        constructor
        · rintro ((g | g) | g)
          · exact .inl ((tpT r (e3 r g).1).mp g)
          · exact .inr (.inl g)
          · exact .inr (.inr g)
        · rintro (g | g | g)
          · exact .inl (.inl ((tpT r (tn r g)).mpr g))
          · exact .inl (.inr g)
          · exact .inr g
      unfold DM D0M
      constructor
      · rintro ((g | ⟨r, hr', hx, hb⟩) | g)
        · exact .inl (g.elim .inl fun z => .inr (.inr z))
        · refine .inr ⟨hx, r, ?_, hb⟩
          rcases (ma r).mp hr' with z | z | z
          · exact .inl z
          · exact .inr (z.elim .inl fun z => .inr (.inr z))
          · exact .inr (.inr (.inl z))
        · exact .inl (.inr (.inl g))
      · rintro (g | ⟨hx, r, hr', hb⟩)
        · rcases g with g | g | g
          · exact .inl (.inl (.inl g))
          · exact .inr g
          · exact .inl (.inl (.inr g))
        · refine .inl (.inr ⟨r, (ma r).mpr ?_, hx, hb⟩)
          rcases hr' with z | z | z | z
          · exact .inl z
          · exact .inr (.inl (.inl z))
          · exact .inr (.inr z)
          · exact .inr (.inl (.inr z))
    · rw [List.length_append]
      omega
end
end G

set_option maxHeartbeats 3900000
namespace G
open PySem PySem.Spec PyProof.Rows L2 TL
open C8 (pss_cut tCut pe_gc)
open CB
abbrev sEntries : Stmt := top 48
abbrev sFits : Stmt := top 49
def EntOk (l : List (Str × Bool)) (f : List Str) (D : List Str → Prop) (p : List Str) : Prop := ∀ n r, p = f ++ n :: r → ((r ≠ [] ∨ D p) → (n, true) ∈ l) ∧ (¬ (r ≠ [] ∨ D p) → (n, false) ∈ l)
def FitE (l : List (Str × Bool)) (f : List Str) (T D : List Str → Prop) : Prop := ∀ p, Nms p → (T p ∨ D p) → EntOk l f D p
def FitS (T D : List Str → Prop) : Lk × An → Prop
  | (.rd q, .no) => ¬ T q
  | (.ls q, .no) => ¬ D q
  | (.ls q, .es l) => FitE l q T D
  | _ => True
def FitsP (ss : List (Lk × An)) (fi fo : List (List Str)) : Prop := (∀ s ∈ ss, ∀ s' ∈ ss, s.1 = s'.1 → s.2 = s'.2) ∧ (∀ p, Nms p → TM ss fi p → ¬ DM ss fi fo p) ∧ ∀ s ∈ ss, FitS (TM ss fi) (DM ss fi fo) s
def spEntries : Sp := fun vs H Q _ => ∃ (g d e : Addr) (l : List (Str × Bool)) (f : List Str) (kvs : List (L2.Key × V)) (dp : List (List Str)) (T D : List Str → Prop), vs = [.ref g, .str (js f), .ref d, .ref e] ∧ H g = some (.tup (l.map entV)) ∧ (∀ x ∈ l, IsNm x.1) ∧ Nms f ∧ f.length ≤ 40 ∧ H d = some (.dK kvs) ∧ KA kvs 40 T ∧ kvs.length ≤ 100000 ∧ H e = some (.lst (dp.map pV)) ∧ DA dp 40 D ∧ dp.length ≤ 100000 ∧
  ∀ b H', Same H H' → (b = true ↔ FitE l f T D) → Q (.bl b) H'
def spFits : Sp := fun vs H Q _ => ∃ (a b c : Addr) (ss : List (Lk × An)) (fi fo : List (List Str)), vs = [.ref a, .ref b, .ref c] ∧ SisL H a ss ∧ (∀ s ∈ ss, SiOk' s ∧ Sz s) ∧ ss.length ≤ 20 ∧ H b = some (.lst (fi.map pV)) ∧ (∀ p ∈ fi, Nms p ∧ p.length ≤ 40) ∧ fi.length ≤ 100 ∧ H c = some (.lst (fo.map pV)) ∧ (∀ p ∈ fo, Nms p ∧ p.length ≤ 40) ∧ fo.length ≤ 100 ∧
  ∀ r H', Same H H' → (r = true ↔ FitsP ss fi fo) → Q (.bl r) H'
theorem in_paths {p : List Str} (hp : Nms p) : ∀ {xs : List (List Str)}, (∀ x ∈ xs, Nms x) → inV (.str (js p)) (xs.map pV) = decide (p ∈ xs) := fun {xs} h => by
  have e : xs.map pV = (xs.map js).map V.str := by
    rw [List.map_map]
    rfl
  rw [e, inV_strs, decide_eq_decide, List.mem_map]
  exact ⟨fun ⟨x, hx, q⟩ => by rw [← js_inj (h x hx) hp q]; exact hx, fun q => ⟨p, q, rfl⟩⟩
theorem flat_paths (xs : List (List Str)) : (xs.map pV).all flatV = true := by
  rw [List.all_map, List.all_eq_true]
  intro x _
  rfl
section
variable {P : Program} {w : World} {K : PySem.W.Frag} {mg : Str → Option Value} {base : Heap}
theorem scEf : FnScope ["_law_entries", "_law_folder", "_law_texts", "_law_dirs", "_law_path_here", "_law_rest", "_law_name"] ["_law_entries", "_law_folder", "_law_texts", "_law_dirs"] (defScope sEntries) := ⟨rfl, rfl, rfl, by decide +kernel, rfl, by decide +kernel, by decide +kernel⟩
theorem ok_entries {f fB : Addr} {fd fdB : FuncData} (F : Fun K "_law_entries_fit" "_law_entries_fit" sEntries f fd) (T : TB mg) (aBe : At K mg "_law_beneath" fB fdB ["_law_path_here", "_law_other"]) (GBe : FnOk P w K mg base CX0 1 fB fdB ["_law_path_here", "_law_other"] spBeneath) : FnOk P w K mg base CX0 2 f fd ["_law_entries", "_law_folder", "_law_texts", "_law_dirs"] spEntries := by
  refine F.ok scEf (fun vs H Q E h => ?_) (fun cdv A outer s H vs Q E hr h => ?_)
  · obtain ⟨g, d, e, l, f, kvs, dp, _, _, rfl, _⟩ := h
    rfl
  · obtain ⟨g, d, e, l, q, kvs, dp, T0, D0, rfl, hg, hl, hq, lq, hd, ka, kl, he, da, dl, fin⟩ := h
    refine ⟨_, pss_cons (ps_for PassesOwn.never rfl (pi_list (pe_op op_cat (pe_callTy (call_list_dK rfl) (by rfl) T.list (by decide +kernel) (pa_cons (pv 2) pa_nil)) (pv 3))) (pg_name (i := 4) scEf.nd rfl (Or.inl rfl)) (pss_one (ps_if (pt_val (pe_call GBe (hr.mono (by decide)) rfl aBe.m aBe.k aBe.b .nil pass0 (pa_cons (pv 4) (pa_cons (pv 1) pa_nil)))) (pss_cons (ps_set (i := 5) scEf.nd rfl (Or.inl rfl) (pe_slice sl_str (pv 4) (po_some (pe_op op_add (pe_callB call_len_str (by rfl) T.len PySem.boot_len (pa_cons (pv 1) pa_nil)) (pe_callTy call_int1 (by rfl) T.int (by decide +kernel) (pa_cons (pe_cmpR op_ne (pv 1) pe_str (nomark _)) pa_nil)))) po_none))
            (pss_cons (ps_set (i := 6) scEf.nd rfl (Or.inl rfl) (pe_ix ix_list (pe_bm PySem.F.plainAttrs_str PySem.F.slot_str_split PySem.F.type_str_split mt_split (pv 5) (pa_cons pe_str pa_nil)) pe_int (fun _ _ => rfl)))
            (pss_one (ps_if (pt_cmpR op_notIn_seq (pe_ifExp (PW.pt (pw_or (pt_cmpR op_ne (pv 5) (pv 6) (nomark _)) (pw_or1 (pt_cmpR op_in_seq (pv 4) (pv 3) (by rfl))))) (pe_op op_add_str (pv 6) pe_str) (pv 6)) (pv 0) (by rfl)) (pss_one (ps_ret pe_bl)) (pss_nil))))) (pss_nil))))
            (pss_one (ps_ret pe_bl)), ?_⟩
    obtain ⟨tp, e1, e2, e3, e4⟩ := KA.keys ka.1
    have tpT : ∀ p, Nms p → (p ∈ tp ↔ T0 p) := fun p hp => ⟨fun h => (ka.2 p hp).mp (e4 p h), fun h => KA.has e1 ((ka.2 p hp).mpr h) (fun x hx => (e3 x hx).1) hp⟩
    refine ⟨_, rfl, d, kvs, rfl, hd, fun l1 hl1 => ?_⟩
    rw [e1]
    have z1 := same_mk (o := .lst (tp.map pV)) hl1
    refine ⟨_, rfl, l1, e, _, _, rfl, rfl, upd_same, z1 _ _ he, ?_, fun l2 hl2 => ?_⟩
    · rw [List.length_map, List.length_map]
      exact Nat.le_trans (show tp.length + dp.length ≤ 200000 by omega) (by decide)
    have z2 := same_mk (o := .lst (tp.map pV ++ dp.map pV)) hl2
    have z12 := z1.trans z2
    have eall : tp.map pV ++ dp.map pV = (tp ++ dp).map pV := (List.map_append ..).symm
    rw [eall] at z12 ⊢
    have alln : ∀ p ∈ tp ++ dp, Nms p ∧ p.length ≤ 40 := fun p hp => (List.mem_append.mp hp).elim (e3 p) (da.1 p)
    have allm : ∀ p, Nms p → (p ∈ tp ++ dp ↔ (T0 p ∨ D0 p)) := fun p hp => by rw [List.mem_append, tpT p hp, da.2 p]
    generalize tp ++ dp = all at *
    have h2 : (upd (upd H l1 (.lst (tp.map pV))) l2 (.lst (all.map pV))) l2 = some (.lst (all.map pV)) := upd_same
    generalize (upd (upd H l1 (.lst (tp.map pV))) l2 (.lst (all.map pV))) = H2 at *
    refine ⟨l2, rfl, ⟨_, SqL.of h2⟩, for_it (walk_list (K := K) (a := l2) (xs := all.map pV)) (fun i σ H' => ∃ x4 x5 x6, σ = [some (.ref g), some (.str (js q)), some (.ref d), some (.ref e), x4, x5, x6] ∧ Same H2 H' ∧ ∀ p ∈ all.take i, EntOk l q D0 p)
      ⟨none, none, none, rfl, Same.refl _, by simp⟩ (fun i σ H' _ m => by obtain ⟨_, _, _, _, m, _⟩ := m; exact SqL.of (m _ _ h2)) ?_ ?_⟩
    · rintro i x _ _ H3 hi ⟨x4, x5, x6, rfl, s3, hp3⟩ ⟨rfl, hx⟩
      rw [List.length_map] at hi
      have hai : all[i]? = some all[i] := List.getElem?_eq_getElem hi
      rw [List.getElem?_map, hai] at hx
      cases hx
      have hmem := List.getElem_mem hi
      obtain ⟨hp, hpl⟩ := alln all[i] hmem
      have tk : all.take (i + 1) = all.take i ++ [all[i]] := by
        rw [List.take_succ, hai]
        rfl
      generalize all[i] = p at *
      have z3 := z12.trans s3
      have nxt : ∀ (H4 : Hp) (x5 x6 : Option V), Same H3 H4 → EntOk l q D0 p → ∃ y4 y5 y6, [some (.ref g), some (.str (js q)), some (.ref d), some (.ref e), some (pV p), x5, x6] = [some (.ref g), some (.str (js q)), some (.ref d), some (.ref e), y4, y5, y6] ∧ Same H2 H4 ∧ ∀ p ∈ all.take (i + 1), EntOk l q D0 p := fun H4 x5 x6 s4 ok => ⟨_, _, _, rfl, s3.trans s4, fun y hy => by
        rw [tk] at hy
        rcases List.mem_append.mp hy with g | g
        · exact hp3 y g
        · rw [List.mem_singleton.mp g]
          exact ok⟩
      refine ⟨_, rfl, _, rfl, p, q, rfl, hp, hq, Nat.le_trans lq (by decide), Nat.le_trans hpl (by decide), fun H4 s4 => ⟨_, rfl, ?_⟩⟩
      cases eb : ben p q with
      | false =>
        refine iteF (nxt H4 x5 x6 s4 fun n r e => ?_)
        rw [ben_iff.mpr ⟨n :: r, by simp, e⟩] at eb
        cases eb
      | true =>
        obtain ⟨r0, hr0, ep⟩ := ben_iff.mp eb
        match r0, hr0 with
        | n :: r, _ =>
          have hnr : Nms (n :: r) := by
            rw [ep] at hp
            exact hp.right
          have hn : IsNm n := hnr n List.mem_cons_self
          have shp := js_sh hp (Nat.le_trans hpl (by decide))
          have shq := js_sh hq (Nat.le_trans lq (by decide))
          have lnr : (n :: r).length ≤ 40 := by
            rw [ep, List.length_append] at hpl
            omega
          have shr := js_sh hnr (Nat.le_trans lnr (by decide))
          have rest : cutS (js p) (some (((js q).length : Int) + (if (!decide (V.str (js q) = V.str "")) = true then 1 else 0))) none = js (n :: r) := by
            have := rest_bg q (r := n :: r) (by simp)
            rw [← ep, bg_len] at this
            rw [← this]
            by_cases eq : q = []
            · subst eq
              rfl
            · rw [if_neg eq, decide_eq_false (show ¬ V.str (js q) = V.str "" from fun z => js_ne hq eq (V.str.inj z)), len_tl, tl_js]
              rfl
          refine iteT ⟨_, rfl, _, rfl, _, rfl, shq.line, _, rfl, rfl, .inr ⟨_, rfl, _, _, rfl, rfl, _, rfl, js p, rfl, shp.line, ?_⟩⟩
          rw [rest]
          refine ⟨_, rfl, rfl, js (n :: r), "/", rfl, rfl, rfl, ?_, fun u hu => ?_⟩
          · have := shr
            unfold Sh at this
            exact Nat.le_trans (show (js (n :: r)).length + 2 ≤ 1002 by omega) (by decide)
          rw [split_js hnr (by simp)]
          have zu := same_mk (o := .lst ((n :: r).map V.str)) hu
          refine ⟨u, _, 0, .str n, rfl, rfl, SqL.of upd_same, atI_nat (j := 0) rfl, ?_⟩
          have z5 := z3.trans (s4.trans zu)
          have hg5 := z5 _ _ hg
          have he5 := z5 _ _ he
          have s45 := s4.trans zu
          generalize (upd H4 u (.lst ((n :: r).map V.str))) = H5 at *
          have fe : (if false = true then !inV (pV p) (dp.map pV) else inV (pV p) (dp.map pV)) = decide (p ∈ dp) := in_paths hp fun x hx => (da.1 x hx).1
          have ne : decide (V.str (js (n :: r)) = V.str n) = decide (r = []) := by
            by_cases er : r = []
            · rw [er, js_one]
              simp
            · rw [decide_eq_false er, decide_eq_false]
              intro z
              have z2 := V.str.inj z
              have := nm_free hn
              rw [← z2, js_cons n er, tl_append, tl_append, tl_sl] at this
              exact this (by simp)
          have uniq : ∀ n' r', p = q ++ n' :: r' → n' = n ∧ r' = r := fun n' r' e => by
            rw [ep] at e
            have := List.append_cancel_left e
            cases this
            exact ⟨rfl, rfl⟩
          have n8 := hn.2.1
          have add : n.length + ("/" : Str).length ≤ sizeLine := Nat.le_trans (show n.length + 1 ≤ 9 by omega) (by decide)
          refine ⟨_, rfl, _, rfl, rfl, _, rfl, ?_⟩
          rw [ne]
          by_cases er : r = []
          · rw [decide_eq_true er]
            refine iteF ⟨_, rfl, _, rfl, e, _, rfl, .inl (SqL.of he5), rfl, flat_paths dp, ?_⟩
            rw [fe]
            by_cases ed : p ∈ dp
            · refine ⟨_, rfl, iteY ed ⟨_, rfl, _, _, rfl, rfl, add, ?_⟩⟩
              have sideT : r ≠ [] ∨ D0 p := .inr ((da.2 p).mp ed)
              refine ⟨_, rfl, g, _, rfl, .inr (SqT.of hg5), rfl, flat_ents l, ?_⟩
              rw [show (if true = true then !inV (.str (n ++ "/")) (l.map entV) else inV (.str (n ++ "/")) (l.map entV)) = !decide ((n, true) ∈ l) from congrArg (! ·) (in_ents hl hn true)]
              by_cases em : (n, true) ∈ l
              · rw [decide_eq_true em]
                refine ⟨_, rfl, iteF (nxt H5 _ _ s45 fun n' r' e => ?_)⟩
                obtain ⟨rfl, rfl⟩ := uniq n' r' e
                exact ⟨fun _ => em, fun z => absurd sideT z⟩
              · rw [decide_eq_false em]
                refine ⟨_, rfl, iteT (fin false H5 z5 ⟨fun z => (nomatch z), fun z => absurd ?_ em⟩)⟩
                exact (z p hp ((allm p hp).mp hmem) n r ep).1 sideT
            · refine ⟨_, rfl, iteN ed ⟨_, rfl, ?_⟩⟩
              have sideF : ¬ (r ≠ [] ∨ D0 p) := fun z => z.elim (fun z => z er) fun z => ed ((da.2 p).mpr z)
              refine ⟨_, rfl, g, _, rfl, .inr (SqT.of hg5), rfl, flat_ents l, ?_⟩
              rw [show (if true = true then !inV (.str (n)) (l.map entV) else inV (.str (n)) (l.map entV)) = !decide ((n, false) ∈ l) from congrArg (! ·) (in_ents hl hn false)]
              by_cases em : (n, false) ∈ l
              · rw [decide_eq_true em]
                refine ⟨_, rfl, iteF (nxt H5 _ _ s45 fun n' r' e => ?_)⟩
                obtain ⟨rfl, rfl⟩ := uniq n' r' e
                exact ⟨fun z => absurd z sideF, fun _ => em⟩
              · rw [decide_eq_false em]
                refine ⟨_, rfl, iteT (fin false H5 z5 ⟨fun z => (nomatch z), fun z => absurd ?_ em⟩)⟩
                exact (z p hp ((allm p hp).mp hmem) n r ep).2 sideF
          · rw [decide_eq_false er]
            refine iteT ⟨_, rfl, _, _, rfl, rfl, add, ?_⟩
            have sideT : r ≠ [] ∨ D0 p := .inl er
            refine ⟨_, rfl, g, _, rfl, .inr (SqT.of hg5), rfl, flat_ents l, ?_⟩
            rw [show (if true = true then !inV (.str (n ++ "/")) (l.map entV) else inV (.str (n ++ "/")) (l.map entV)) = !decide ((n, true) ∈ l) from congrArg (! ·) (in_ents hl hn true)]
            by_cases em : (n, true) ∈ l
            · rw [decide_eq_true em]
              refine ⟨_, rfl, iteF (nxt H5 _ _ s45 fun n' r' e => ?_)⟩
              obtain ⟨rfl, rfl⟩ := uniq n' r' e
              exact ⟨fun _ => em, fun z => absurd sideT z⟩
            · rw [decide_eq_false em]
              refine ⟨_, rfl, iteT (fin false H5 z5 ⟨fun z => (nomatch z), fun z => absurd ?_ em⟩)⟩
              exact (z p hp ((allm p hp).mp hmem) n r ep).1 sideT
    · rintro _ H3 ⟨x4, x5, x6, rfl, s3, hp3⟩
      rw [List.length_map, List.take_length] at hp3
      exact fin true H3 (z12.trans s3) ⟨fun _ p hp h => hp3 p ((allm p hp).mpr h), fun _ => rfl⟩
def lkey (k : Lk) : List L2.Key := (lkS k).map Sum.inr
theorem lkey_V (k : Lk) : (lkey k).map kV = lkV k := by
  rw [lkV_S]
  unfold lkey
  rw [List.map_map]
  rfl
theorem lkey_inj {k k' : Lk} (h : LkW k) (h' : LkW k') : lkey k = lkey k' ↔ k = k' := by
  refine ⟨fun e => lkS_inj h h' ?_, fun e => by rw [e]⟩
  unfold lkey at e
  have : ∀ {l m : List Str}, l.map (Sum.inr : Str → L2.Key) = m.map Sum.inr → l = m := by
    intro l
    induction l with
    | nil =>
      intro m h
      cases m with
      | nil => rfl
      | cons _ _ => cases h
    | cons x r ih =>
      intro m h
      cases m with
      | nil => cases h
      | cons y t =>
        simp only [List.map_cons, List.cons.injEq] at h
        rw [Sum.inr.inj h.1, ih h.2]
  exact this e
theorem anAt_inj {H : Hp} {v : V} {a a' : An} (h : AnAt H v a) (h' : AnAt H v a') (w : AnW a) (w' : AnW a') : a = a' := by
  cases a with
  | no =>
    cases (show v = .non from h)
    cases a' with
    | no => rfl
    | tx z => cases (show V.non = .str z from h')
    | es l =>
      obtain ⟨_, e, _⟩ := h'
      cases e
  | tx z =>
    cases (show v = .str z from h)
    cases a' with
    | no => cases (show V.str z = .non from h')
    | tx z' =>
      cases (show V.str z = .str z' from h')
      rfl
    | es l =>
      obtain ⟨_, e, _⟩ := h'
      cases e
  | es l =>
    obtain ⟨b, rfl, hb⟩ := h
    cases a' with
    | no => cases (show V.ref b = .non from h')
    | tx z' => cases (show V.ref b = .str z' from h')
    | es l' =>
      obtain ⟨b', e, hb'⟩ := h'
      cases e
      rw [hb] at hb'
      have e2 : l.map entV = l'.map entV := HO.tup.inj (Option.some.inj hb')
      have e3 : (l.map fun e => ent e.1 e.2) = l'.map fun e => ent e.1 e.2 := by
        have : ∀ {x y : List (Str × Bool)}, x.map entV = y.map entV → (x.map fun e => ent e.1 e.2) = y.map fun e => ent e.1 e.2 := by
          intro x
          induction x with
          | nil =>
            intro y h
            cases y with
            | nil => rfl
            | cons _ _ => cases h
          | cons a r ih =>
            intro y h
            cases y with
            | nil => cases h
            | cons c t =>
              simp only [List.map_cons, List.cons.injEq] at h ⊢
              exact ⟨V.str.inj h.1, ih h.2⟩
        exact this e2
      rw [ents_inj w.1 w'.1 e3]
theorem scFi : FnScope ["_law_sights", "_law_files", "_law_folders", "_law_known", "_law_look_here", "_law_answer", "_law_texts", "_law_dirs", "_law_path_here"] ["_law_sights", "_law_files", "_law_folders"] (defScope sFits) := ⟨rfl, rfl, rfl, by decide +kernel, rfl, by decide +kernel, by decide +kernel⟩
theorem ok_fits {f fM fE : Addr} {fd fdM fdE : FuncData} (F : Fun K "_law_fits" "_law_fits" sFits f fd) (T : TB mg) (aMu : At K mg "_law_must" fM fdM ["_law_sights", "_law_files", "_law_folders"]) (aEf : At K mg "_law_entries_fit" fE fdE ["_law_entries", "_law_folder", "_law_texts", "_law_dirs"])
    (GMu : FnOk P w K mg base CX0 1 fM fdM ["_law_sights", "_law_files", "_law_folders"] spMust) (GEf : FnOk P w K mg base CX0 2 fE fdE ["_law_entries", "_law_folder", "_law_texts", "_law_dirs"] spEntries) : FnOk P w K mg base CX0 3 f fd ["_law_sights", "_law_files", "_law_folders"] spFits := by
  refine F.ok scFi (fun vs H Q E h => ?_) (fun cdv A outer s H vs Q E hr h => ?_)
  · obtain ⟨a, b, c, ss, fi, fo, rfl, _⟩ := h
    rfl
  · have hu := hr.units
    have hu1 : (A.deeper (envOfC "_law_fits" (defScope sFits) s.heap.objs.size f cdv)).units + 1 < cLine := by omega
    obtain ⟨a, b, c, ss, fi, fo, rfl, hsis, hok, hss, hb, hfi, hfil, hc, hfo, hfol, fin⟩ := h
    have hsis0 := hsis
    obtain ⟨vs, ha, hal, hav⟩ := hsis
    refine ⟨_, pss_cons (ps_set (i := 3) scFi.nd rfl (Or.inl rfl) pe_dnewT)
            (pss_cons (ps_for PassesOwn.never rfl (pi_list (pv 0)) (pg_tup rfl (pgs_cons (pg_name (i := 4) scFi.nd rfl (Or.inl rfl)) (pgs_cons (pg_name (i := 5) scFi.nd rfl (Or.inl rfl)) pgs_nil))) (pss_one (ps_if (pt_cmpR (op_neD hu) (pe_bm PySem.F.plainAttrs_dict PySem.F.slot_dict_setdefault PySem.F.type_dict_setdefault (mt_setdT hu1) (pv 3) (pa_cons (pv 4) (pa_cons (pv 5) pa_nil))) (pv 5) (nomark _)) (pss_one (ps_ret pe_bl)) (pss_nil))))
            (pss_cons (ps_asg (pe_call GMu (hr.mono (by decide)) rfl aMu.m aMu.k aMu.b .nil pass0 (pa_cons (pv 0) (pa_cons (pv 1) (pa_cons (pv 2) pa_nil)))) (pg_tup rfl (pgs_cons (pg_name (i := 6) scFi.nd rfl (Or.inl rfl)) (pgs_cons (pg_name (i := 7) scFi.nd rfl (Or.inr rfl)) pgs_nil))))
            (pss_cons (ps_if (pt_val (pe_callB (cr_any rfl) (by rfl) T.any boot_any (pa_cons (pe_lock (pe_lc (own := [("_law_path_here", 8)]) (g := gName 8) (tt := tYes) rfl scFi.nd (pi_keys (pv 6)) (blkOk_by (own := [("_law_path_here", 8)]) (N := ["_law_sights", "_law_files", "_law_folders", "_law_known", "_law_look_here", "_law_answer", "_law_texts", "_law_dirs", "_law_path_here"]) (sc := defScope sFits) (by decide +kernel)) (fun _ _ _ _ _ => (pg_name (i := 8) scFi.nd rfl (Or.inl rfl))) (fun _ _ _ _ _ => pts_nil) (fun _ _ _ _ _ => (by exact (pe_cmpR (in_seqK (K0 := K) rfl) (pv 8) (pv 7) (by rfl)))))) pa_nil))) (pss_one (ps_ret pe_bl)) (pss_nil))
            (pss_cons (ps_for PassesOwn.never rfl (pi_list (pv 0)) (pg_tup rfl (pgs_cons (pg_name (i := 4) scFi.nd rfl (Or.inl rfl)) (pgs_cons (pg_name (i := 5) scFi.nd rfl (Or.inl rfl)) pgs_nil))) (pss_cons (ps_if (PW.pt (pw_and (pt_cmpR op_eq (pe_ix ix_tup (pv 4) pe_int (fun _ _ => rfl)) pe_str (nomark _)) (pw_and (pt_cmp (pc_isN (pv 5))) (pw_and1 (pt_cmp (pc_din hu1 (pe_ix ix_tup (pv 4) pe_int (fun _ _ => rfl)) (pv 6))))))) (pss_one (ps_ret pe_bl)) (pss_nil))
            (pss_cons (ps_if (PW.pt (pw_and (pt_cmpR op_eq (pe_ix ix_tup (pv 4) pe_int (fun _ _ => rfl)) pe_str (nomark _)) (pw_and (pt_cmp (pc_isN (pv 5))) (pw_and1 (pt_cmpR op_in_seq (pe_ix ix_tup (pv 4) pe_int (fun _ _ => rfl)) (pv 7) (by rfl)))))) (pss_one (ps_ret pe_bl)) (pss_nil))
            (pss_one (ps_if (PW.pt (pw_and (pt_cmpR op_eq (pe_ix ix_tup (pv 4) pe_int (fun _ _ => rfl)) pe_str (nomark _)) (pw_and (pt_cmp (pc_notN (pv 5))) (pw_and1 (pt_not (pt_val (pe_call GEf (hr.mono (by decide)) rfl aEf.m aEf.k aEf.b .nil pass0 (pa_cons (pv 5) (pa_cons (pe_ix ix_tup (pv 4) pe_int (fun _ _ => rfl)) (pa_cons (pv 6) (pa_cons (pv 7) pa_nil))))))))))) (pss_one (ps_ret pe_bl)) (pss_nil))))))
            (pss_one (ps_ret pe_bl)))))), ?_⟩
    refine fun d hd => ?_
    have sd := same_mk (o := .dT []) hd
    -- known
    refine ⟨_, rfl, a, rfl, ⟨_, SqL.of (sd _ _ ha)⟩, for_it (walk_list (K := K) (a := a) (xs := vs)) (fun i σ H' => ∃ x4 x5, σ = [some (.ref a), some (.ref b), some (.ref c), some (.ref d), x4, x5, none, none, none] ∧ Same H H' ∧ ∃ kvs : List (List L2.Key × V), H' d = some (.dT kvs) ∧ kvs.length ≤ i ∧
          (∀ s ∈ ss.take i, ∃ v, valV kvs (lkey s.1) = some v ∧ AnAt H v s.2) ∧ ∀ k v, LkW k → valV kvs (lkey k) = some v → ∃ s ∈ ss.take i, s.1 = k ∧ AnAt H v s.2)
      ⟨none, none, rfl, sd, [], upd_same, Nat.le_refl _, by simp, fun k v _ h => by cases h⟩ (fun i σ H' _ q => by obtain ⟨_, _, _, m, _⟩ := q; exact SqL.of (m _ _ ha)) ?_ ?_⟩
    · rintro i x _ _ H1 hi ⟨x4, x5, rfl, s1, kvs, hk, hkl, hk1, hk2⟩ ⟨rfl, hx⟩
      have his : i < ss.length := by omega
      have hsi : ss[i]? = some ss[i] := List.getElem?_eq_getElem his
      have hmem : ss[i] ∈ ss := List.getElem_mem his
      obtain ⟨ok, sz⟩ := hok ss[i] hmem
      have S0 := hav i x ss[i] hx hsi
      have tk : ss.take (i + 1) = ss.take i ++ [ss[i]] := by
        rw [List.take_succ, hsi]
        rfl
      generalize ss[i] = s0 at *
      obtain ⟨k, an⟩ := s0
      obtain ⟨t, u, va, rfl, h1, h2, h3⟩ := S0
      have h1' := s1 _ _ h1
      have h2' := s1 _ _ h2
      have key2 : H1 u = some (.tup ((lkey k).map kV)) := by rw [lkey_V]; exact h2'
      refine ⟨t, _, rfl, SqT.of h1', rfl, _, _, rfl, _, _, rfl, rfl, ?_⟩
      refine ⟨_, rfl, .inr (.inr (.inl ⟨rfl, .inr ⟨_, hk⟩⟩)), _, rfl, _, rfl, d, kvs, lkey k, u, va, rfl, rfl, hk, key2, Nat.lt_of_lt_of_le (show kvs.length < 100 by omega) (by decide), fun v hv => ?_, fun hn => ?_⟩
      · obtain ⟨s', hs', ek, hA⟩ := hk2 k v ok.2.1 hv
        have ok' := (hok s' (List.mem_of_mem_take hs')).1
        refine ⟨_, rfl, anD s'.2, anD an, an_dp (hA.up s1), an_dp (h3.up s1), anD_shaped ok'.2.2, anD_shaped ok.2.2, ?_⟩
        rw [eqv_an ok'.2.2 ok.2.2]
        by_cases ea : s'.2 = an
        · rw [decide_eq_true ea]
          refine ⟨_, rfl, iteF ⟨_, _, rfl, s1, kvs, hk, by omega, fun s hs => ?_, fun k' v' hk' hv' => ?_⟩⟩
          · rw [tk] at hs
            rcases List.mem_append.mp hs with g | g
            · exact hk1 s g
            · rw [List.mem_singleton.mp g]
              exact ⟨v, hv, by rw [← ea]; exact hA⟩
          · obtain ⟨s, hs, e⟩ := hk2 k' v' hk' hv'
            exact ⟨s, by rw [tk]; exact List.mem_append_left _ hs, e⟩
        · rw [decide_eq_false ea]
          refine ⟨_, rfl, iteT (fin false H1 s1 ⟨fun z => (nomatch z), fun z => absurd ?_ ea⟩)⟩
          exact z.1 s' (List.mem_of_mem_take hs') (k, an) hmem ek
      · have s2 : Same H (upd H1 d (.dT (putK kvs (lkey k) va))) := same_ch s1 hd
        refine ⟨_, rfl, anD an, anD an, an_dp (h3.up s2), an_dp (h3.up s2), anD_shaped ok.2.2, anD_shaped ok.2.2, ?_⟩
        rw [eqv_an ok.2.2 ok.2.2, decide_eq_true rfl]
        refine ⟨_, rfl, iteF ⟨_, _, rfl, s2, _, upd_same, ?_, fun s hs => ?_, fun k' v' hk' hv' => ?_⟩⟩
        · have := length_putK kvs (lkey k) va
          omega
        · rw [tk] at hs
          rw [valV_put]
          rcases List.mem_append.mp hs with g | g
          · obtain ⟨v, hv, hA⟩ := hk1 s g
            have ok' := (hok s (List.mem_of_mem_take g)).1
            rw [if_neg ?_]
            · exact ⟨v, hv, hA⟩
            · intro z
              rw [z, hn] at hv
              cases hv
          · rw [List.mem_singleton.mp g]
            exact ⟨va, if_pos rfl, h3⟩
        · rw [valV_put] at hv'
          by_cases e : lkey k' = lkey k
          · rw [if_pos e] at hv'
            cases hv'
            exact ⟨(k, an), by rw [tk]; simp, ((lkey_inj hk' ok.2.1).mp e).symm, h3⟩
          · rw [if_neg e] at hv'
            obtain ⟨s, hs, e⟩ := hk2 k' v' hk' hv'
            exact ⟨s, by rw [tk]; exact List.mem_append_left _ hs, e⟩
    rintro _ H1 ⟨x4, x5, rfl, s1, kvs0, hk, hkl, hk1, hk2⟩
    rw [hal, List.take_length] at hk1
    have cons : ∀ s ∈ ss, ∀ s' ∈ ss, s.1 = s'.1 → s.2 = s'.2 := fun s hs s' hs' e => by
      obtain ⟨v, hv, hA⟩ := hk1 s hs
      obtain ⟨v', hv', hA'⟩ := hk1 s' hs'
      rw [e, hv'] at hv
      cases hv
      exact anAt_inj hA hA' (hok s hs).1.2.2 (hok s' hs').1.2.2
    -- texts, dirs = must(..)
    refine ⟨_, rfl, _, rfl, _, rfl, a, b, c, ss, fi, fo, rfl, hsis0.up s1, hok, hss, s1 _ _ hb, hfi, hfil, s1 _ _ hc, hfo, hfol, fun t td te kvs dp H2 s2 td0 te0 ht htd ka kal hte da dal => ?_⟩
    have s12 := s1.trans s2
    refine ⟨t, _, rfl, SqT.of ht, rfl, _, _, rfl, _, _, rfl, rfl, ?_⟩
    obtain ⟨tp, e1, e2, e3, e4⟩ := KA.keys ka.1
    have tpT : ∀ p, Nms p → (p ∈ tp ↔ TM ss fi p) := fun p hp => ⟨fun h => (ka.2 p hp).mp (e4 p h), fun h => KA.has e1 ((ka.2 p hp).mpr h) (fun x hx => (e3 x hx).1) hp⟩
    have tde : te ≠ td := by
      rintro rfl
      rw [hte] at htd
      cases htd
    -- any(path in dirs for path in texts)
    refine ⟨td, _, htd, trivial, fun od => ⟨_, rfl, td, od, rfl, .inl ⟨kvs, upd_same, fun D hD => ?_⟩⟩⟩
    have htl : (upd H2 td (.frz od (.dK kvs))) te = some (.lst (dp.map pV)) := by rw [upd_ne tde]; exact hte
    refine lcW (walk_keys (kvs := kvs)) (tp.map fun p => .bl (decide (p ∈ dp))) (by rw [List.length_map, e2]) (by omega) hD (fun H' s => s _ _ upd_same) ?_ ?_
    · rintro i x y _ H3 hy s3 ⟨rfl, k, v, hkv, rfl⟩ Q1 k1
      have e1i : (kvs.map fun kv => kV kv.1)[i]? = some (kV k) := by rw [List.getElem?_map, hkv]; rfl
      rw [e1, List.getElem?_map] at e1i
      rw [List.getElem?_map] at hy
      match q : tp[i]? with
      | none =>
        rw [q] at hy
        cases hy
      | some p =>
        rw [q] at hy e1i
        cases hy
        have e1i : V.str (js p) = kV k := Option.some.inj e1i
        rw [← e1i]
        have hp := (e3 p (List.mem_of_getElem? q)).1
        refine ⟨_, rfl, _, rfl, te, _, rfl, .inl (SqL.of (s3 _ _ htl)), rfl, flat_paths dp, ?_⟩
        rw [show (if false = true then !inV (.str (js p)) (dp.map pV) else inV (.str (js p)) (dp.map pV)) = decide (p ∈ dp) from in_paths hp fun x hx => (da.1 x hx).1]
        exact k1 H3 (Same.refl H3)
    intro H3 s3 hD3
    have htd3 := s3 _ _ upd_same
    refine ⟨htd3, ?_⟩
    have s23 : Same H2 (upd H3 td (.dK kvs)) := fun x o hx => by
      by_cases e : x = td
      · rw [e] at hx ⊢
        rw [upd_same, ← hx, htd]
      · rw [upd_ne e]
        exact s3 _ _ (by rw [upd_ne e]; exact hx)
    have tdD : D ≠ td := by
      intro e
      rw [e, upd_same] at hD
      cases hD
    have hD4 : (upd H3 td (.dK kvs)) D = some (.lst (tp.map fun p => .bl (decide (p ∈ dp)))) := by
      rw [upd_ne tdD]
      exact hD3
    refine ⟨D, tp.map fun p => decide (p ∈ dp), rfl, SqL.of (by rw [hD4, List.map_map]; rfl), ?_⟩
    rw [show (tp.map fun p => decide (p ∈ dp)).any id = tp.any fun p => decide (p ∈ dp) by rw [List.any_map]; rfl]
    refine ⟨_, rfl, ?_⟩
    have s13 := s12.trans s23
    generalize (upd H3 td (.dK kvs)) = H4 at *
    by_cases ex : (tp.any fun p => decide (p ∈ dp)) = true
    · rw [ex]
      refine iteT (fin false H4 s13 ⟨fun z => (nomatch z), fun z => ?_⟩)
      obtain ⟨p, hp, hq⟩ := List.any_eq_true.mp ex
      have np := (e3 p hp).1
      exact absurd ((da.2 p).mp (of_decide_eq_true hq)) (z.2.1 p np ((tpT p np).mp hp))
    rw [Bool.not_eq_true] at ex
    rw [ex]
    refine iteF ?_
    have apart : ∀ p, Nms p → TM ss fi p → ¬ DM ss fi fo p := fun p hp h1 h2 => by
      have := List.any_eq_false.mp ex p ((tpT p hp).mpr h1)
      exact this (decide_eq_true ((da.2 p).mpr h2))
    -- the last loop
    have td4 := s23 _ _ htd
    have te4 := s23 _ _ hte
    refine ⟨_, rfl, a, rfl, ⟨_, SqL.of (s13 _ _ ha)⟩, for_it (walk_list (K := K) (a := a) (xs := vs)) (fun i σ H' => ∃ x4 x5 x8, σ = [some (.ref a), some (.ref b), some (.ref c), some (.ref d), x4, x5, some (.ref td), some (.ref te), x8] ∧ Same H4 H' ∧ ∀ s ∈ ss.take i, FitS (TM ss fi) (DM ss fi fo) s)
      ⟨_, _, _, rfl, Same.refl _, by simp⟩ (fun i σ H' _ q => by obtain ⟨_, _, _, _, m, _⟩ := q; exact SqL.of ((s13.trans m) _ _ ha)) ?_ ?_⟩
    · rintro i x _ _ H5 hi ⟨x4, x5, x8, rfl, s5, hf⟩ ⟨rfl, hx⟩
      have his : i < ss.length := by omega
      have hsi : ss[i]? = some ss[i] := List.getElem?_eq_getElem his
      have hmem : ss[i] ∈ ss := List.getElem_mem his
      obtain ⟨ok, sz⟩ := hok ss[i] hmem
      have S0 := hav i x ss[i] hx hsi
      have tk : ss.take (i + 1) = ss.take i ++ [ss[i]] := by
        rw [List.take_succ, hsi]
        rfl
      generalize ss[i] = s0 at *
      obtain ⟨k, an⟩ := s0
      obtain ⟨t', u, va, rfl, h1, h2, h3⟩ := S0
      have s15 := s13.trans s5
      have h1' := s15 _ _ h1
      have h2' := s15 _ _ h2
      have td5 := s5 _ _ td4
      have te5 := s5 _ _ te4
      have nxt : ∀ (H6 : Hp), Same H5 H6 → FitS (TM ss fi) (DM ss fi fo) (k, an) → ∃ y4 y5 y8, [some (.ref a), some (.ref b), some (.ref c), some (.ref d), some (.ref u), some va, some (.ref td), some (.ref te), x8] = [some (.ref a), some (.ref b), some (.ref c), some (.ref d), y4, y5, some (.ref td), some (.ref te), y8] ∧ Same H4 H6 ∧ ∀ s ∈ ss.take (i + 1), FitS (TM ss fi) (DM ss fi fo) s := fun H6 s6 ok => ⟨_, _, _, rfl, s5.trans s6, fun y hy => by
        rw [tk] at hy
        rcases List.mem_append.mp hy with g | g
        · exact hf y g
        · rw [List.mem_singleton.mp g]
          exact ok⟩
      have bad : ∀ (H6 : Hp), Same H5 H6 → ¬ FitS (TM ss fi) (DM ss fi fo) (k, an) → Q (.bl false) H6 := fun H6 s6 no => fin false H6 (s15.trans s6) ⟨fun z => (nomatch z), fun z => absurd (z.2.2 _ hmem) no⟩
      refine ⟨t', _, rfl, SqT.of h1', rfl, _, _, rfl, _, _, rfl, rfl, ?_⟩
      cases k with
      | rd q =>
        have nq : Nms q := ok.1.1.2.1
        refine ⟨_, rfl, u, _, 0, _, rfl, rfl, SqT.of h2', atI_nat (j := 0) rfl, rfl, _, rfl, iteY rfl ?_⟩
        have rest : (∀ H6, Same H5 H6 → FitS (TM ss fi) (DM ss fi fo) (.rd q, an)) → FitS (TM ss fi) (DM ss fi fo) (.rd q, an) := fun h => h H5 (Same.refl _)
        cases an with
        | no =>
          cases (show va = .non from h3)
          refine ⟨_, rfl, _, rfl, iteT ⟨_, rfl, u, _, 1, _, rfl, rfl, SqT.of h2', atI_nat (j := 1) rfl, _, rfl, td, _, rfl, DGet.k (k := pkey q) td5, _, rfl, ?_⟩⟩
          cases ev : (valV kvs (pkey q)).isSome with
          | true => exact iteT (bad H5 (Same.refl _) fun z => z ((ka.2 q nq).mp ev))
          | false =>
            refine iteF ⟨_, rfl, u, _, 0, _, rfl, rfl, SqT.of h2', atI_nat (j := 0) rfl, rfl, _, rfl, iteN (by decide +kernel) ⟨_, rfl, u, _, 0, _, rfl, rfl, SqT.of h2', atI_nat (j := 0) rfl, rfl, _, rfl, iteN (by decide +kernel) (nxt H5 (Same.refl _) fun z => ?_)⟩⟩
            rw [(ka.2 q nq).mpr z] at ev
            cases ev
        | tx z =>
          cases (show va = .str z from h3)
          exact ⟨_, rfl, _, rfl, iteN (by intro z; cases z) ⟨_, rfl, u, _, 0, _, rfl, rfl, SqT.of h2', atI_nat (j := 0) rfl, rfl, _, rfl, iteN (by decide +kernel) ⟨_, rfl, u, _, 0, _, rfl, rfl, SqT.of h2', atI_nat (j := 0) rfl, rfl, _, rfl, iteN (by decide +kernel) (nxt H5 (Same.refl _) trivial)⟩⟩⟩
        | es l => exact ok.1.2.elim
      | ls q =>
        have nq : Nms q := ok.1.1.1
        refine ⟨_, rfl, u, _, 0, _, rfl, rfl, SqT.of h2', atI_nat (j := 0) rfl, rfl, _, rfl, iteN (by decide +kernel) ⟨_, rfl, u, _, 0, _, rfl, rfl, SqT.of h2', atI_nat (j := 0) rfl, rfl, _, rfl, iteY rfl ?_⟩⟩
        cases an with
        | no =>
          cases (show va = .non from h3)
          refine ⟨_, rfl, _, rfl, iteT ⟨_, rfl, u, _, 1, _, rfl, rfl, SqT.of h2', atI_nat (j := 1) rfl, _, rfl, te, _, rfl, .inl (SqL.of te5), rfl, flat_paths dp, ?_⟩⟩
          rw [show (if false = true then !inV (.str (js q)) (dp.map pV) else inV (.str (js q)) (dp.map pV)) = decide (q ∈ dp) from in_paths nq fun x hx => (da.1 x hx).1]
          by_cases eq : q ∈ dp
          · exact ⟨_, rfl, iteY eq (bad H5 (Same.refl _) fun z => z ((da.2 q).mp eq))⟩
          · exact ⟨_, rfl, iteN eq ⟨_, rfl, u, _, 0, _, rfl, rfl, SqT.of h2', atI_nat (j := 0) rfl, rfl, _, rfl, iteY rfl ⟨_, rfl, _, rfl, iteF (nxt H5 (Same.refl _) fun z => eq ((da.2 q).mpr z))⟩⟩⟩
        | tx z => exact ok.1.2.elim
        | es l =>
          obtain ⟨g, rfl, hg⟩ := h3
          refine ⟨_, rfl, _, rfl, iteN (by intro z; cases z) ⟨_, rfl, u, _, 0, _, rfl, rfl, SqT.of h2', atI_nat (j := 0) rfl, rfl, _, rfl, iteY rfl ⟨_, rfl, _, rfl, iteT ⟨_, rfl, _, rfl, u, _, 1, _, rfl, rfl, SqT.of h2', atI_nat (j := 1) rfl, _, rfl, _, rfl, g, td, te, l, q, kvs, dp, TM ss fi, DM ss fi fo, rfl, s15 _ _ hg, ok.1.2.1.1, nq, Nat.le_trans sz.1 (by decide), td5, ka, kal, te5, da, dal, fun r H6 s6 hr6 => ⟨_, rfl, ?_⟩⟩⟩⟩⟩
          cases r with
          | true => exact iteF (nxt H6 s6 (hr6.mp rfl))
          | false => exact iteT (bad H6 s6 fun z => by cases hr6.mpr z)
      | se n =>
        refine ⟨_, rfl, u, _, 0, _, rfl, rfl, SqT.of h2', atI_nat (j := 0) rfl, rfl, _, rfl, iteN (by decide +kernel) ⟨_, rfl, u, _, 0, _, rfl, rfl, SqT.of h2', atI_nat (j := 0) rfl, rfl, _, rfl, iteN (by decide +kernel) ⟨_, rfl, u, _, 0, _, rfl, rfl, SqT.of h2', atI_nat (j := 0) rfl, rfl, _, rfl, iteN (by decide +kernel) (nxt H5 (Same.refl _) (by cases an <;> trivial))⟩⟩⟩
      | tl =>
        refine ⟨_, rfl, u, _, 0, _, rfl, rfl, SqT.of h2', atI_nat (j := 0) rfl, rfl, _, rfl, iteN (by decide +kernel) ⟨_, rfl, u, _, 0, _, rfl, rfl, SqT.of h2', atI_nat (j := 0) rfl, rfl, _, rfl, iteN (by decide +kernel) ⟨_, rfl, u, _, 0, _, rfl, rfl, SqT.of h2', atI_nat (j := 0) rfl, rfl, _, rfl, iteN (by decide +kernel) (nxt H5 (Same.refl _) (by cases an <;> trivial))⟩⟩⟩
    · rintro _ H5 ⟨x4, x5, x8, rfl, s5, hf⟩
      rw [hal, List.take_length] at hf
      exact fin true H5 (s13.trans s5) ⟨fun _ => ⟨cons, apart, hf⟩, fun _ => rfl⟩
end
end G

set_option maxHeartbeats 3900000
namespace G
open PySem PySem.Spec PyProof.Rows L2 TL
open CB
theorem ent_uniq {l : List (Str × Bool)} (h : Ents l) {n : Str} (a : (n, true) ∈ l) (b : (n, false) ∈ l) : False := by
  obtain ⟨i, hi, ei⟩ := List.getElem_of_mem a
  obtain ⟨j, hj, ej⟩ := List.getElem_of_mem b
  have irr : ∀ x : List Nat, ¬ x < x := fun x hx => List.lt_irrefl x hx
  have pw := List.pairwise_iff_getElem.mp h.2.1
  have key : ∀ (i j : Nat) (hi : i < l.length) (hj : j < l.length), i < j → l[i].1 = n → l[j].1 = n → False := fun i j hi hj hij e1 e2 => by
    have := pw i j (by rw [List.length_map]; exact hi) (by rw [List.length_map]; exact hj) hij
    rw [List.getElem_map, List.getElem_map, e1, e2] at this
    exact irr _ this
  rcases Nat.lt_trichotomy i j with q | q | q
  · exact key i j hi hj q (by rw [ei]) (by rw [ej])
  · subst q
    rw [ei] at ej
    cases ej
  · exact key j i hj hi q (by rw [ej]) (by rw [ei])
/-! the mathematics of k07: what bars is what does not fit -/
theorem ben_irr (q : List Str) : ben q q = false := by
  cases e : ben q q with
  | false => rfl
  | true =>
    obtain ⟨r, hr, h⟩ := ben_iff.mp e
    have := congrArg List.length h
    have h2 := List.length_pos_iff.mpr hr
    rw [List.length_append] at this
    omega
theorem ben_len {p q : List Str} (h : ben p q = true) : q.length < p.length := by
  unfold ben at h
  rw [Bool.and_eq_true] at h
  exact of_decide_eq_true h.2
theorem ben_tr {p q r : List Str} (h : ben p q = true) (g : ben q r = true) : ben p r = true := by
  obtain ⟨a, ha, rfl⟩ := ben_iff.mp h
  obtain ⟨b, hb, rfl⟩ := ben_iff.mp g
  exact ben_iff.mpr ⟨b ++ a, by simp [hb], by simp⟩
theorem ben_nil {p : List Str} : ben [] p = false := by
  cases e : ben [] p with
  | false => rfl
  | true => exact absurd (ben_len e) (by simp)
theorem ben_cons (q : List Str) (n : Str) (r : List Str) : ben (q ++ n :: r) q = true := ben_iff.mpr ⟨n :: r, by simp, rfl⟩
theorem ben_dest {p q : List Str} (h : ben p q = true) : ∃ n r, p = q ++ n :: r := by
  obtain ⟨t, ht, rfl⟩ := ben_iff.mp h
  cases t with
  | nil => exact absurd rfl ht
  | cons n r => exact ⟨n, r, rfl⟩
theorem lostP_in (q : List Str) (l : List (Str × Bool)) (w : Bool) (n : Str) (r : List Str) : lostP q l w (q ++ n :: r) = (if (n, true) ∈ l then w && decide (r = []) else if (n, false) ∈ l then !w || !decide (r = []) else true) := by
  unfold lostP
  rw [if_pos (ben_cons q n r), List.drop_left]
theorem lostP_out {q : List Str} {l : List (Str × Bool)} {w : Bool} {p : List Str} (h : ben p q = false) : lostP q l w p = (w && (decide (q = p) || ben q p)) := by
  unfold lostP
  rw [if_neg (by rw [h]; simp)]
/-- what a sight needs: files, folders -/
def Ds (s : Lk × An) (p : List Str) : Prop := (p = [] ∨ DirOf s p) ∨ (p ≠ [] ∧ ∃ r, (TxtOf s r ∨ (r = [] ∨ DirOf s r)) ∧ ben r p = true)
theorem tm_two (s s' : Lk × An) (p : List Str) : TM [s, s'] [] p ↔ TxtOf s p ∨ TxtOf s' p := by
  unfold TM
  simp
theorem dm_two (s s' : Lk × An) (p : List Str) : DM [s, s'] [] [] p ↔ Ds s p ∨ Ds s' p := by
  unfold DM Ds D0M TM
  simp only [List.mem_cons, List.not_mem_nil, or_false, false_or, exists_eq_or_imp, exists_eq_left]
  constructor
  · rintro ((h | h | h) | ⟨hp, r, (h | h) | (h | h | h), g⟩)
    · exact .inl (.inl (.inl h))
    · exact .inl (.inl (.inr h))
    · exact .inr (.inl (.inr h))
    · exact .inl (.inr ⟨hp, r, .inl h, g⟩)
    · exact .inr (.inr ⟨hp, r, .inl h, g⟩)
    · exact .inl (.inr ⟨hp, r, .inr (.inl h), g⟩)
    · exact .inl (.inr ⟨hp, r, .inr (.inr h), g⟩)
    · exact .inr (.inr ⟨hp, r, .inr (.inr h), g⟩)
  · rintro (((h | h) | ⟨hp, r, h | (h | h), g⟩) | ((h | h) | ⟨hp, r, h | (h | h), g⟩))
    · exact .inl (.inl h)
    · exact .inl (.inr (.inl h))
    · exact .inr ⟨hp, r, .inl (.inl h), g⟩
    · exact .inr ⟨hp, r, .inr (.inl h), g⟩
    · exact .inr ⟨hp, r, .inr (.inr (.inl h)), g⟩
    · exact .inl (.inl h)
    · exact .inl (.inr (.inr h))
    · exact .inr ⟨hp, r, .inl (.inr h), g⟩
    · exact .inr ⟨hp, r, .inr (.inl h), g⟩
    · exact .inr ⟨hp, r, .inr (.inr (.inr h)), g⟩
def ff (s : Lk × An) (p : List Str) : Bool := decide (s = (.rd p, .no)) || follL s (.rd p)
def fd (s : Lk × An) (p : List Str) : Bool := decide (s = (.ls p, .no)) || follL s (.ls p)
theorem foll_rd (s : Lk × An) (p : List Str) : follM s (.rd p, .no) = ff s p := rfl
theorem foll_ls (s : Lk × An) (p : List Str) : follM s (.ls p, .no) = fd s p := rfl
theorem ff_A (q p : List Str) : ff (.rd q, .no) p = decide (q = p) := by
  unfold ff
  simp [follL]
theorem fd_A (q p : List Str) : fd (.rd q, .no) p = false := by
  unfold fd
  simp [follL]
theorem ff_B (q p : List Str) (z : Str) : ff (.rd q, .tx z) p = (ben p q || ben q p) := by
  unfold ff
  simp [follL, lostF]
theorem fd_B (q p : List Str) (z : Str) : fd (.rd q, .tx z) p = (decide (p = q) || ben p q) := by
  unfold fd
  simp [follL, lostF]
theorem ff_C (q p : List Str) : ff (.ls q, .no) p = ben p q := by
  unfold ff
  simp [follL]
theorem fd_C (q p : List Str) : fd (.ls q, .no) p = (decide (q = p) || ben p q) := by
  unfold fd
  simp [follL]
theorem ff_D (q p : List Str) (l : List (Str × Bool)) : ff (.ls q, .es l) p = lostP q l true p := by
  unfold ff
  simp [follL, lostN]
theorem fd_D (q p : List Str) (l : List (Str × Bool)) : fd (.ls q, .es l) p = lostP q l false p := by
  unfold fd
  simp [follL, lostN]
/-- the shapes of sights -/
inductive Shape : Lk × An → Prop
  | A (q) (h : q ≠ []) (n : Nms q) : Shape (.rd q, .no)
  | B (q z) (h : q ≠ []) (n : Nms q) : Shape (.rd q, .tx z)
  | C (q) (h : q ≠ []) (n : Nms q) : Shape (.ls q, .no)
  | D (q l) (h : Ents l) (g : l ≠ [] ∨ q = []) (n : Nms q) : Shape (.ls q, .es l)
  | N (k a) (h : (∃ n, k = .se n) ∨ k = .tl) : Shape (k, a)
theorem shape_of {s : Lk × An} (h : SiOk s) : Shape s := by
  obtain ⟨k, a⟩ := s
  obtain ⟨h1, h2⟩ := h
  cases k with
  | rd q =>
    cases a with
    | no => exact .A q h1.1 h1.2.1
    | tx z => exact .B q z h1.1 h1.2.1
    | es l => exact h2.elim
  | ls q =>
    cases a with
    | no => exact .C q h2 h1.1
    | tx z => exact h2.elim
    | es l => exact .D q l h2.1 h2.2 h1.1
  | se n => exact .N _ _ (.inl ⟨n, rfl⟩)
  | tl => exact .N _ _ (.inr rfl)
theorem ff_N {k : Lk} {a : An} (h : (∃ n, k = .se n) ∨ k = .tl) (p : List Str) : ff (k, a) p = false ∧ fd (k, a) p = false := by
  rcases h with ⟨n, rfl⟩ | rfl <;> (unfold ff fd; simp [follL])
theorem need_N {k : Lk} {a : An} (h : (∃ n, k = .se n) ∨ k = .tl) (p : List Str) : ¬ TxtOf (k, a) p ∧ ¬ DirOf (k, a) p := by
  rcases h with ⟨n, rfl⟩ | rfl <;> exact ⟨fun h => h, fun h => h⟩
theorem nm_app1 {q : List Str} {n : Str} (hq : Nms q) (hn : IsNm n) : Nms (q ++ [n]) := fun y hy => by
  rcases List.mem_append.mp hy with h | h
  · exact hq y h
  · rw [List.mem_singleton.mp h]
    exact hn
theorem txt_nm {s : Lk × An} (h : Shape s) {p : List Str} (t : TxtOf s p) : Nms p ∧ p ≠ [] := by
  cases h with
  | A q h n => exact t.elim
  | B q z h n =>
    have e : p = q := t
    rw [e]
    exact ⟨n, h⟩
  | C q h n => exact t.elim
  | D q l h g n =>
    obtain ⟨m, hm, rfl⟩ := t
    exact ⟨nm_app1 n (h.1 _ hm), by simp⟩
  | N k a h => exact ((need_N h p).1 t).elim
theorem dir_nm {s : Lk × An} (h : Shape s) {p : List Str} (t : DirOf s p) : Nms p := by
  cases h with
  | A q h n => exact t.elim
  | B q z h n => exact t.elim
  | C q h n => exact t.elim
  | D q l h g n =>
    rcases t with rfl | ⟨m, hm, rfl⟩
    · exact n
    · exact nm_app1 n (h.1 _ hm)
  | N k a h => exact ((need_N h p).2 t).elim
theorem nms_ben {p q : List Str} (h : ben p q = true) (n : Nms p) : Nms q := by
  obtain ⟨r, _, rfl⟩ := ben_iff.mp h
  exact fun y hy => n y (List.mem_append_left _ hy)
theorem ds_nm {s : Lk × An} (h : Shape s) {p : List Str} (t : Ds s p) : Nms p := by
  rcases t with (rfl | t) | ⟨_, r, t | rfl | t, g⟩
  · exact fun y hy => absurd hy (by simp)
  · exact dir_nm h t
  · exact nms_ben g (txt_nm h t).1
  · exact absurd (ben_len g) (by simp)
  · exact nms_ben g (dir_nm h t)
theorem ds_up {s : Lk × An} {p q : List Str} (h : Ds s p ∨ TxtOf s p) (b : ben p q = true) (hq : q ≠ []) : Ds s q := by
  rcases h with ((rfl | t) | ⟨_, r, t, g⟩) | t
  · rw [ben_nil] at b
    cases b
  · exact .inr ⟨hq, p, .inr (.inr t), b⟩
  · exact .inr ⟨hq, r, t, ben_tr g b⟩
  · exact .inr ⟨hq, p, .inl t, b⟩
/-- what is lost below is lost above -/
theorem fd_down {s : Lk × An} {p p' : List Str} (h : fd s p = true) (b : ben p' p = true) (hs : Shape s) : ff s p' = true ∧ fd s p' = true := by
  cases hs with
  | A q g n =>
    rw [fd_A] at h
    cases h
  | B q z g n =>
    rw [fd_B, Bool.or_eq_true, decide_eq_true_iff] at h
    have hb : ben p' q = true := by
      rcases h with rfl | h
      · exact b
      · exact ben_tr b h
    rw [ff_B, fd_B, hb]
    simp
  | C q g n =>
    rw [fd_C, Bool.or_eq_true, decide_eq_true_iff] at h
    have hb : ben p' q = true := by
      rcases h with rfl | h
      · exact b
      · exact ben_tr b h
    rw [ff_C, fd_C, hb]
    simp
  | D q l g g2 n =>
    rw [fd_D] at h
    cases e : ben p q with
    | false =>
      rw [lostP_out e] at h
      cases h
    | true =>
      obtain ⟨m, r, rfl⟩ := ben_dest e
      obtain ⟨x, hx, rfl⟩ := ben_iff.mp b
      rw [lostP_in] at h
      rw [ff_D, fd_D, List.append_assoc, List.cons_append, lostP_in, lostP_in]
      by_cases h1 : (m, true) ∈ l
      · rw [if_pos h1] at h
        cases h
      · rw [if_neg h1, if_neg h1]
        by_cases h2 : (m, false) ∈ l
        · simp [h2, hx]
        · simp [h2]
  | N k a g =>
    rw [(ff_N g p).2] at h
    cases h
theorem fd_root {s : Lk × An} (hs : Shape s) : fd s [] = false := by
  cases hs with
  | A q g n => exact fd_A q []
  | B q z g n =>
    rw [fd_B, ben_nil]
    simpa using g
  | C q g n =>
    rw [fd_C, ben_nil]
    simpa using g
  | D q l g g2 n =>
    rw [fd_D, lostP_out ben_nil]
    rfl
  | N k a g => exact (ff_N g []).2
/-- what a sight needs as a file it rules out as a folder -/
theorem txt_fd {s : Lk × An} (hs : Shape s) {p : List Str} (t : TxtOf s p) : fd s p = true := by
  cases hs with
  | A q g n => exact t.elim
  | B q z g n =>
    have e : p = q := t
    rw [fd_B, e]
    simp
  | C q g n => exact t.elim
  | D q l g g2 n =>
    obtain ⟨m, hm, rfl⟩ := t
    rw [fd_D, lostP_in, if_neg (fun a => ent_uniq g a hm), if_pos hm]
    rfl
  | N k a g => exact ((need_N g p).1 t).elim
theorem self1 {s : Lk × An} (hs : Shape s) {p : List Str} (t : TxtOf s p) : ¬ Ds s p := by
  intro d
  have hne := (txt_nm hs t).2
  cases hs with
  | A q g n => exact t.elim
  | B q z g n =>
    have e : p = q := t
    subst e
    rcases d with (d | d) | ⟨_, r, d | rfl | d, b⟩
    · exact hne d
    · exact d.elim
    · have e : r = p := d
      rw [e, ben_irr] at b
      cases b
    · rw [ben_nil] at b
      cases b
    · exact d.elim
  | C q g n => exact t.elim
  | D q l g g2 n =>
    obtain ⟨m, hm, rfl⟩ := t
    rcases d with (d | d) | ⟨_, r, d | rfl | d, b⟩
    · exact hne d
    · rcases d with d | ⟨k, hk, e⟩
      · have := congrArg List.length d
        simp at this
      · have := List.append_cancel_left e
        cases this
        exact ent_uniq g hk hm
    · obtain ⟨k, hk, rfl⟩ := d
      have := ben_len b
      simp at this
    · rw [ben_nil] at b
      cases b
    · rcases d with rfl | ⟨k, hk, rfl⟩
      · have := ben_len b
        simp at this
        omega
      · have := ben_len b
        simp at this
  | N k a g => exact ((need_N g p).1 t).elim
/-- what a sight of names needs itself stands among its names -/
theorem self2 {q : List Str} {l : List (Str × Bool)} {n : Str} {r : List Str} : (TxtOf (.ls q, .es l) (q ++ n :: r) → r = [] ∧ (n, false) ∈ l) ∧ (Ds (.ls q, .es l) (q ++ n :: r) → r = [] ∧ (n, true) ∈ l) := by
  have lem : ∀ {k : Str}, q ++ n :: r = q ++ [k] → r = [] ∧ n = k := fun e => by
    have := List.append_cancel_left e
    cases this
    exact ⟨rfl, rfl⟩
  have lim : ∀ {x : List Str}, x.length ≤ q.length + 1 → ben x (q ++ n :: r) = true → False := fun hx b => by
    have := ben_len b
    simp at this
    omega
  constructor
  · rintro ⟨k, hk, e⟩
    obtain ⟨e1, rfl⟩ := lem e
    exact ⟨e1, hk⟩
  · rintro ((d | d) | ⟨_, x, d | rfl | d, b⟩)
    · simp at d
    · rcases d with d | ⟨k, hk, e⟩
      · have := congrArg List.length d
        simp at this
      · obtain ⟨e1, rfl⟩ := lem e
        exact ⟨e1, hk⟩
    · obtain ⟨k, hk, rfl⟩ := d
      exact (lim (by simp) b).elim
    · rw [ben_nil] at b
      cases b
    · rcases d with rfl | ⟨k, hk, rfl⟩
      · exact (lim (by simp) b).elim
      · exact (lim (by simp) b).elim
def Cross (s s' : Lk × An) : Prop := (∀ p, TxtOf s' p → ff s p = false) ∧ ∀ p, Ds s' p → fd s p = false
/-- each need of the one against the other -/
theorem cross_con {s s' : Lk × An} (hs : Shape s) (hs' : Shape s') : denM s (con s') = false ↔ Cross s s' := by
  unfold denM
  rw [List.any_eq_false]
  constructor
  · intro h
    have h1 : ∀ p, TxtOf s' p → ff s p = false := by
      intro p t
      cases hs' with
      | A q g n => exact t.elim
      | B q z g n =>
        have e : p = q := t
        have := h (.rd q, .no) (List.mem_singleton.mpr rfl)
        rw [foll_rd] at this
        rw [e]
        simpa using this
      | C q g n => exact t.elim
      | D q l g g2 n =>
        obtain ⟨m, hm, rfl⟩ := t
        have := h (conE q (m, false)) (List.mem_map.mpr ⟨_, hm, rfl⟩)
        have e : conE q (m, false) = (.rd (q ++ [m]), .no) := rfl
        rw [e, foll_rd] at this
        simpa using this
      | N k a g => exact ((need_N g p).1 t).elim
    have h2 : ∀ p, DirOf s' p → fd s p = false := by
      intro p t
      cases hs' with
      | A q g n => exact t.elim
      | B q z g n => exact t.elim
      | C q g n => exact t.elim
      | D q l g g2 n =>
        have hd : ∀ m, (m, true) ∈ l → fd s (q ++ [m]) = false := fun m hm => by
          have := h (conE q (m, true)) (List.mem_map.mpr ⟨_, hm, rfl⟩)
          have e : conE q (m, true) = (.ls (q ++ [m]), .no) := rfl
          rw [e, foll_ls] at this
          simpa using this
        rcases t with rfl | ⟨m, hm, rfl⟩
        · rcases g2 with g2 | rfl
          · cases l with
            | nil => exact absurd rfl g2
            | cons e l' =>
              cases ef : fd s p with
              | false => rfl
              | true =>
                obtain ⟨m, b⟩ := e
                obtain ⟨f1, f2⟩ := fd_down ef (ben_cons p m []) hs
                cases b with
                | true =>
                  rw [hd m (List.mem_cons_self ..)] at f2
                  cases f2
                | false =>
                  rw [h1 (p ++ [m]) ⟨m, List.mem_cons_self .., rfl⟩] at f1
                  cases f1
          · exact fd_root hs
        · exact hd m hm
      | N k a g => exact ((need_N g p).2 t).elim
    refine ⟨h1, ?_⟩
    rintro p ((rfl | d) | ⟨hp, r, d | rfl | d, b⟩)
    · exact fd_root hs
    · exact h2 p d
    · cases ef : fd s p with
      | false => rfl
      | true =>
        have := (fd_down ef b hs).1
        rw [h1 r d] at this
        cases this
    · rw [ben_nil] at b
      cases b
    · cases ef : fd s p with
      | false => rfl
      | true =>
        have := (fd_down ef b hs).2
        rw [h2 r d] at this
        cases this
  · rintro ⟨h1, h2⟩ x hx
    cases hs' with
    | A q g n => exact absurd hx (by simp [con])
    | B q z g n =>
      rw [List.mem_singleton.mp hx, foll_rd, h1 q rfl]
      simp
    | C q g n => exact absurd hx (by simp [con])
    | D q l g g2 n =>
      obtain ⟨⟨m, b⟩, hm, rfl⟩ := List.mem_map.mp hx
      cases b with
      | true =>
        have e : conE q (m, true) = (.ls (q ++ [m]), .no) := rfl
        rw [e, foll_ls, h2 _ (.inl (.inr (.inr ⟨m, hm, rfl⟩)))]
        simp
      | false =>
        have e : conE q (m, false) = (.rd (q ++ [m]), .no) := rfl
        rw [e, foll_rd, h1 _ ⟨m, hm, rfl⟩]
        simp
    | N k a g =>
      rcases g with ⟨n, rfl⟩ | rfl <;> exact absurd hx (by simp [con])
theorem fits_cross {s s' : Lk × An} {T D : List Str → Prop} (hs : Shape s) (hs' : Shape s')
    (hT : ∀ p, T p ↔ TxtOf s p ∨ TxtOf s' p) (hD : ∀ p, D p ↔ Ds s p ∨ Ds s' p)
    (dis : ∀ p, Nms p → T p → ¬ D p) (fit : FitS T D s) : Cross s s' := by
  have up : ∀ {p q : List Str}, D p ∨ T p → ben p q = true → q ≠ [] → D q := by
    intro p q h b hq
    rcases h with h | h
    · rcases (hD p).mp h with h | h
      · exact (hD q).mpr (.inl (ds_up (.inl h) b hq))
      · exact (hD q).mpr (.inr (ds_up (.inl h) b hq))
    · rcases (hT p).mp h with h | h
      · exact (hD q).mpr (.inl (ds_up (.inr h) b hq))
      · exact (hD q).mpr (.inr (ds_up (.inr h) b hq))
  constructor
  · intro p t
    have tp : T p := (hT p).mpr (.inr t)
    obtain ⟨np, pe⟩ := txt_nm hs' t
    cases e : ff s p with
    | false => rfl
    | true =>
      exfalso
      cases hs with
      | A q g n =>
        rw [ff_A] at e
        exact fit (of_decide_eq_true e ▸ tp)
      | B q z g n =>
        have tq : T q := (hT q).mpr (.inl rfl)
        rw [ff_B, Bool.or_eq_true] at e
        rcases e with e | e
        · exact dis q n tq (up (.inr tp) e g)
        · exact dis p np tp (up (.inr tq) e pe)
      | C q g n =>
        rw [ff_C] at e
        exact fit (up (.inr tp) e g)
      | D q l g g2 n =>
        rw [ff_D] at e
        cases b : ben p q with
        | true =>
          obtain ⟨m, r, rfl⟩ := ben_dest b
          rw [lostP_in] at e
          obtain ⟨f1, f2⟩ := fit _ np (.inl tp) m r rfl
          have nd := dis _ np tp
          by_cases h1 : (m, true) ∈ l
          · rw [if_pos h1, Bool.true_and, decide_eq_true_iff] at e
            subst e
            exact nd ((hD _).mpr (.inl (.inl (.inr (.inr ⟨m, h1, rfl⟩)))))
          · by_cases hr : r = []
            · subst hr
              rw [if_neg h1, if_pos (f2 (by simp [nd]))] at e
              simp at e
            · exact h1 (f1 (.inl hr))
        | false =>
          rw [lostP_out b, Bool.true_and, Bool.or_eq_true, decide_eq_true_iff] at e
          have dq : D q := (hD q).mpr (.inl (.inl (.inr (.inl rfl))))
          rcases e with rfl | e
          · exact dis q np tp dq
          · exact dis p np tp (up (.inl dq) e pe)
      | N k a g =>
        rw [(ff_N g p).1] at e
        cases e
  · intro p t
    have dp : D p := (hD p).mpr (.inr t)
    have np := ds_nm hs' t
    cases e : fd s p with
    | false => rfl
    | true =>
      exfalso
      cases hs with
      | A q g n =>
        rw [fd_A] at e
        cases e
      | B q z g n =>
        have tq : T q := (hT q).mpr (.inl rfl)
        rw [fd_B, Bool.or_eq_true, decide_eq_true_iff] at e
        rcases e with rfl | e
        · exact dis p np tq dp
        · exact dis q n tq (up (.inl dp) e g)
      | C q g n =>
        rw [fd_C, Bool.or_eq_true, decide_eq_true_iff] at e
        rcases e with rfl | e
        · exact fit dp
        · exact fit (up (.inl dp) e g)
      | D q l g g2 n =>
        rw [fd_D] at e
        cases b : ben p q with
        | true =>
          obtain ⟨m, r, rfl⟩ := ben_dest b
          rw [lostP_in] at e
          obtain ⟨f1, f2⟩ := fit _ np (.inr dp) m r rfl
          rw [if_pos (f1 (.inr dp))] at e
          cases e
        | false =>
          rw [lostP_out b] at e
          cases e
      | N k a g =>
        rw [(ff_N g p).2] at e
        cases e
theorem fit_of {s s' : Lk × An} {T D : List Str → Prop} (hs : Shape s) (hs' : Shape s')
    (hT : ∀ p, T p ↔ TxtOf s p ∨ TxtOf s' p) (hD : ∀ p, D p ↔ Ds s p ∨ Ds s' p) (c : Cross s s') (dis : ∀ p, T p → ¬ D p) : FitS T D s := by
  obtain ⟨c1, c2⟩ := c
  cases hs with
  | A q g n =>
    intro t
    rcases (hT q).mp t with t | t
    · exact t
    · have := c1 q t
      rw [ff_A] at this
      simp at this
  | B q z g n => trivial
  | C q g n =>
    intro d
    rcases (hD q).mp d with d | d
    · rcases d with (d | d) | ⟨_, r, d | rfl | d, b⟩
      · exact g d
      · exact d
      · exact d
      · rw [ben_nil] at b
        cases b
      · exact d
    · have := c2 q d
      rw [fd_C] at this
      simp at this
  | D q l g g2 n =>
    rintro p np h m r rfl
    have foll : ∀ (w : Bool), lostP q l w (q ++ m :: r) = false → ((m, true) ∈ l ∧ (w = true → r ≠ [])) ∨ ((m, true) ∉ l ∧ (m, false) ∈ l ∧ w = true ∧ r = []) := by
      intro w e
      rw [lostP_in] at e
      by_cases h1 : (m, true) ∈ l
      · rw [if_pos h1] at e
        refine .inl ⟨h1, fun hw hr => ?_⟩
        rw [hw, hr] at e
        cases e
      · rw [if_neg h1] at e
        by_cases h2 : (m, false) ∈ l
        · rw [if_pos h2, Bool.or_eq_false_iff] at e
          exact .inr ⟨h1, h2, by simpa using e.1, by simpa using e.2⟩
        · rw [if_neg h2] at e
          cases e
    have key : D (q ++ m :: r) → (m, true) ∈ l := by
      intro d
      rcases (hD _).mp d with d | d
      · exact (self2.2 d).2
      · have := c2 _ d
        rw [fd_D] at this
        rcases foll false this with h | h
        · exact h.1
        · cases h.2.2.1
    have key2 : T (q ++ m :: r) → (r = [] ∧ (m, false) ∈ l) ∨ (r ≠ [] ∧ (m, true) ∈ l) := by
      intro t
      rcases (hT _).mp t with t | t
      · exact .inl (self2.1 t)
      · have := c1 _ t
        rw [ff_D] at this
        rcases foll true this with h | h
        · exact .inr ⟨h.2 rfl, h.1⟩
        · exact .inl ⟨h.2.2.2, h.2.1⟩
    constructor
    · rintro (hr | d)
      · rcases h with t | d
        · rcases key2 t with k | k
          · exact absurd k.1 hr
          · exact k.2
        · exact key d
      · exact key d
    · intro hn
      rcases h with t | d
      · rcases key2 t with k | k
        · exact k.2
        · exact absurd (.inl k.1) hn
      · exact absurd (.inr d) hn
  | N k a g =>
    rcases g with ⟨n, rfl⟩ | rfl <;> trivial
theorem bars_fits {s s' : Lk × An} (h : SiOk s) (h' : SiOk s') : barsM s s' = true ↔ ¬ FitsP [s, s'] [] [] := by
  have hs := shape_of h
  have hs' := shape_of h'
  have hT := tm_two s s'
  have hD := dm_two s s'
  have main : Cross s s' → Cross s' s → s.1 ≠ s'.1 ∨ s = s' → FitsP [s, s'] [] [] := by
    intro c c' hk
    have dis : ∀ p, TM [s, s'] [] p → ¬ DM [s, s'] [] [] p := by
      intro p t d
      rcases (hT p).mp t with t | t <;> rcases (hD p).mp d with d | d
      · exact self1 hs t d
      · have := c.2 p d
        rw [txt_fd hs t] at this
        cases this
      · have := c'.2 p d
        rw [txt_fd hs' t] at this
        cases this
      · exact self1 hs' t d
    refine ⟨?_, fun p _ => dis p, ?_⟩
    · intro a ha b hb e
      rcases hk with hk | rfl
      · have ha' : a = s ∨ a = s' := by simpa using ha
        have hb' : b = s ∨ b = s' := by simpa using hb
        rcases ha' with ha' | ha' <;> rcases hb' with hb' | hb'
        · rw [ha', hb']
        · rw [ha', hb'] at e
          exact absurd e hk
        · rw [ha', hb'] at e
          exact absurd e.symm hk
        · rw [ha', hb']
      · have ea : a = s := by simpa using ha
        have eb : b = s := by simpa using hb
        rw [ea, eb]
    · intro a ha
      rcases List.mem_cons.mp ha with rfl | ha
      · exact fit_of hs hs' hT hD c dis
      · rw [List.mem_singleton.mp ha]
        exact fit_of hs' hs (fun p => (hT p).trans or_comm) (fun p => (hD p).trans or_comm) c' dis
  by_cases e : s.1 = s'.1
  · unfold barsM
    rw [if_pos e]
    by_cases e2 : s.2 = s'.2
    · have es : s = s' := Prod.ext e e2
      subst es
      have c : Cross s s := by
        constructor
        · intro p t
          cases q : ff s p with
          | false => rfl
          | true =>
            exfalso
            cases hs with
            | A q' g n => exact t
            | B q' z g n =>
              have e : p = q' := t
              rw [ff_B, e, ben_irr] at q
              cases q
            | C q' g n => exact t
            | D q' l g g2 n =>
              obtain ⟨m, hm, rfl⟩ := t
              rw [ff_D, lostP_in, if_neg (fun a => ent_uniq g a hm), if_pos hm] at q
              simp at q
            | N k a g => exact (need_N g p).1 t
        · intro p d
          cases q : fd s p with
          | false => rfl
          | true =>
            exfalso
            cases hs with
            | A q' g n =>
              rw [fd_A] at q
              cases q
            | B q' z g n =>
              rw [fd_B, Bool.or_eq_true, decide_eq_true_iff] at q
              have hp : p ≠ [] := by
                rcases q with rfl | q
                · exact g
                · rintro rfl
                  rw [ben_nil] at q
                  cases q
              rcases d with (d | d) | ⟨_, r, d | rfl | d, b⟩
              · exact hp d
              · exact d
              · have er : r = q' := d
                subst er
                rcases q with rfl | q
                · rw [ben_irr] at b
                  cases b
                · have := ben_tr b q
                  rw [ben_irr] at this
                  cases this
              · rw [ben_nil] at b
                cases b
              · exact d
            | C q' g n =>
              rcases d with (d | d) | ⟨_, r, d | rfl | d, b⟩
              · subst d
                rw [fd_root (.C q' g n)] at q
                cases q
              · exact d
              · exact d
              · rw [ben_nil] at b
                cases b
              · exact d
            | D q' l g g2 n =>
              rw [fd_D] at q
              cases b : ben p q' with
              | false =>
                rw [lostP_out b] at q
                cases q
              | true =>
                obtain ⟨m, r, rfl⟩ := ben_dest b
                rw [lostP_in, if_pos (self2.2 d).2] at q
                cases q
            | N k a g =>
              rw [(ff_N g p).2] at q
              cases q
      simp only [e2, decide_true, Bool.not_true, Bool.false_eq_true, false_iff, Classical.not_not]
      exact main c c (.inr rfl)
    · simp only [e2, decide_false, Bool.not_false, true_iff]
      rintro ⟨f, _⟩
      exact e2 (f s (by simp) s' (by simp) e)
  · unfold barsM
    rw [if_neg e]
    constructor
    · intro hb f
      obtain ⟨_, f2, f3⟩ := f
      have c := fits_cross hs hs' hT hD f2 (f3 s (by simp))
      have c' := fits_cross hs' hs (fun p => (hT p).trans or_comm) (fun p => (hD p).trans or_comm) f2 (f3 s' (by simp))
      rw [(cross_con hs hs').mpr c, (cross_con hs' hs).mpr c'] at hb
      cases hb
    · intro f
      cases e1 : denM s (con s') with
      | true => rfl
      | false =>
        cases e2 : denM s' (con s) with
        | true => rfl
        | false => exact (f (main ((cross_con hs hs').mp e1) ((cross_con hs' hs).mp e2) (.inl e))).elim
end G

set_option maxHeartbeats 3900000
namespace G
open PySem PySem.Spec PyProof.Rows L2 TL
open C8 (pss_cut tCut pe_gc)
open CB
abbrev sBelow : Stmt := top 51
/-- a sight shifted beneath a folder -/
def belowL (f : List Str) : Lk → Lk
  | .rd p => .rd (f ++ p)
  | .ls p => .ls (f ++ p)
  | k => k
def belowA (z : Str) : Lk → An → An
  | .ls p, .es l => if l = [] ∧ p ≠ [] then .es [(z, false)] else .es l
  | _, a => a
def belowM (f : List Str) (z : Str) (s : Lk × An) : Lk × An := (belowL f s.1, belowA z (belowL f s.1) s.2)
def spBelow : Sp := fun vs H Q _ => ∃ v s f p z zs, vs = [v, .str (bg f), .ref p] ∧ SiAt H v s ∧ SiW s ∧ AnOk s.1 s.2 ∧ Nms f ∧ f.length ≤ 40 ∧ H p = some (.lst ((z :: zs).map V.str)) ∧ ∀ v' H', Same H H' → SiAt H' v' (belowM f z s) → Q v' H'
section
variable {P : Program} {w : World} {K : PySem.W.Frag} {mg : Str → Option Value} {base : Heap}
theorem scBl : FnScope ["_law_sight", "_law_front", "_law_pool_here", "_law_look_here", "_law_answer", "_law_path_here"] ["_law_sight", "_law_front", "_law_pool_here"] (defScope sBelow) := ⟨rfl, rfl, rfl, by decide +kernel, rfl, by decide +kernel, by decide +kernel⟩
theorem ok_below {f : Addr} {fd : FuncData} (F : Fun K "_law_below" "_law_below" sBelow f fd) : FnOk P w K mg base CX0 1 f fd ["_law_sight", "_law_front", "_law_pool_here"] spBelow := by
  refine F.ok scBl (fun vs H Q E h => ?_) (fun cdv A outer s H vs Q E hr h => ?_)
  · obtain ⟨v, s, f, p, z, zs, rfl, _⟩ := h
    rfl
  · have hu := hr.units
    obtain ⟨v, s, f, p, z, zs, rfl, S1, w1, ok, nf, fl, hp, fin⟩ := h
    refine ⟨_, pss_cons (ps_asg (pv 0) (pg_tup rfl (pgs_cons (pg_name (i := 3) scBl.nd rfl (Or.inl rfl)) (pgs_cons (pg_name (i := 4) scBl.nd rfl (Or.inl rfl)) pgs_nil))))
            (pss_cons (ps_if (pt_cmpR op_notIn_seq (pe_ix ix_tup (pv 3) pe_int (fun _ _ => rfl)) (pe_tup (pa_cons pe_str (pa_cons pe_str pa_nil))) (by rfl)) (pss_one (ps_ret (pv 0))) (pss_nil))
            (pss_cons (ps_set (i := 5) scBl.nd rfl (Or.inl rfl) (pe_bm PySem.F.plainAttrs_str PySem.F.slot_str_strip PySem.F.type_str_strip mt_stripChars (pe_op op_add_str (pv 1) (pe_ix ix_tup (pv 3) pe_int (fun _ _ => rfl))) (pa_cons pe_str pa_nil)))
            (pss_one (ps_ret (pe_tup (pa_cons (pe_tup (pa_cons (pe_ix ix_tup (pv 3) pe_int (fun _ _ => rfl)) (pa_cons (pv 5) pa_nil))) (pa_cons (pe_ifExp (PW.pt (pw_and (pt_cmpR (op_eqD hu) (pv 4) (pe_tup pa_nil) (nomark _)) (pw_and1 (pt_cmpR op_ne (pv 5) pe_str (nomark _))))) (pe_tup (pa_cons (pe_ix ix_list (pv 2) pe_int (fun _ _ => rfl)) pa_nil)) (pv 4)) pa_nil))))))), ?_⟩
    obtain ⟨t, u, va, rfl, h1, h2, h3⟩ := S1
    obtain ⟨k, a⟩ := s
    dsimp only at *
    refine ⟨_, rfl, t, _, rfl, SqT.of h1, rfl, _, _, rfl, _, _, rfl, rfl, ?_⟩
    have shp : (∃ (wd : Str) (r : List V), lkV k = .str wd :: r ∧ inV (.str wd) [V.str "read", V.str "list"] = false ∧ belowM f z (k, a) = (k, a)) ∨
        ∃ (wd : Str) (q : List Str) (k' : Lk) (a' : An), lkV k = [.str wd, .str (js q)] ∧ inV (.str wd) [V.str "read", V.str "list"] = true ∧ Nms q ∧ q.length ≤ 100 ∧ belowM f z (k, a) = (k', a') ∧ lkV k' = [.str wd, .str (js (f ++ q))] ∧ (a' = if a = .es [] ∧ f ++ q ≠ [] then .es [(z, false)] else a) := by
      cases k with
      | rd q =>
        refine .inr ⟨"read", q, .rd (f ++ q), a, rfl, by decide +kernel, w1.1.1, w1.1.2, ?_, rfl, ?_⟩
        · unfold belowM belowL belowA
          rfl
        · rw [if_neg]
          rintro ⟨rfl, _⟩
          exact ok
      | ls q =>
        refine .inr ⟨"list", q, .ls (f ++ q), belowA z (.ls (f ++ q)) a, rfl, by decide +kernel, w1.1.1, w1.1.2, rfl, rfl, ?_⟩
        cases a with
        | es l =>
          unfold belowA
          simp
        | no => simp [belowA]
        | tx z => simp [belowA]
      | se n => exact .inl ⟨"setting", _, rfl, by decide +kernel, rfl⟩
      | tl => exact .inl ⟨"tool", _, rfl, by decide +kernel, rfl⟩
    rcases shp with ⟨wd, r, hk, hin, hb⟩ | ⟨wd, q, k', a', hk, hin, nq, ql, hb, hk', ha'⟩
    · rw [hb] at fin
      rw [hk] at h2
      refine ⟨_, rfl, u, _, 0, _, rfl, rfl, SqT.of h2, atI_nat (j := 0) rfl, by show 2 ≤ sizeLine; decide, fun b hb => ?_⟩
      have sb := same_mk (o := .tup [.str "read", .str "list"]) hb
      refine ⟨b, _, rfl, .inr (SqT.of upd_same), rfl, rfl, ?_⟩
      rw [hin]
      exact ⟨_, rfl, iteT ⟨_, rfl, fin _ _ sb ⟨t, u, va, rfl, sb _ _ h1, sb _ _ (by rw [hk]; exact h2), h3.up sb⟩⟩⟩
    · rw [hb] at fin
      have hk2 := h2
      rw [hk] at h2
      refine ⟨_, rfl, u, _, 0, _, rfl, rfl, SqT.of h2, atI_nat (j := 0) rfl, by show 2 ≤ sizeLine; decide, fun b hb => ?_⟩
      have sb := same_mk (o := .tup [.str "read", .str "list"]) hb
      refine ⟨b, _, rfl, .inr (SqT.of upd_same), rfl, rfl, ?_⟩
      rw [hin]
      have bl : (bg f).length ≤ 361 := by
        rw [bg_len]
        split
        · omega
        · have := js_len nf
          rw [len_tl, tl_js] at this
          omega
      have jl' : (js q).length ≤ 900 := Nat.le_trans (js_len nq) (by omega)
      refine ⟨_, rfl, iteF ⟨_, rfl, _, rfl, u, _, 1, _, rfl, rfl, SqT.of (sb _ _ h2), atI_nat (j := 1) rfl, _, _, rfl, rfl, Nat.le_trans (show _ ≤ 1261 by omega) (by decide), rfl, _, _, rfl, rfl, Nat.le_trans (show (bg f ++ js q).length ≤ 1261 by rw [len_tl, tl_append, List.length_append, ← len_tl, ← len_tl]; omega) (by decide), ?_⟩⟩
      rw [strip_front nf nq]
      refine ⟨_, rfl, u, _, 0, _, rfl, rfl, SqT.of (sb _ _ h2), atI_nat (j := 0) rfl, _, rfl, by show 2 ≤ sizeLine; decide, fun c hc => ?_⟩
      have sc := sb.trans (same_mk (o := .tup [.str wd, .str (js (f ++ q))]) hc)
      generalize hHc : upd (upd H b (.tup [.str "read", .str "list"])) c (.tup [.str wd, .str (js (f ++ q))]) = Hc at *
      have hcc : Hc c = some (.tup [.str wd, .str (js (f ++ q))]) := by rw [← hHc]; exact upd_same
      refine ⟨_, rfl, by exact Nat.zero_le _, fun e he => ?_⟩
      have se := same_mk (o := .tup []) he
      have wa : AnW a := w1.2
      have da : Dp K (upd Hc e (.tup [])) va (anD a) := an_dp (h3.up (sc.trans se))
      refine ⟨_, strD [], da, .tup (SqT.of (xs := []) upd_same) .nil, anD_shaped wa, shaped_strs [] (by simp), ?_⟩
      rw [show PyData.eqv (anD a) (strD []) = decide (a = .es []) from eqv_an (a' := .es []) wa ⟨by simp, by simp⟩]
      have out : ∀ (v2 : V) (H2 : Hp), Same Hc H2 → AnAt H2 v2 a' → ∀ r, H2 r = none → Q (.ref r) (upd H2 r (.tup [.ref c, v2])) := fun v2 H2 s2 h2' r hr' => by
        have sr := same_mk (o := .tup [.ref c, v2]) hr'
        exact fin _ _ ((sc.trans s2).trans sr) ⟨r, c, v2, rfl, upd_same, by rw [hk']; exact sr _ _ (s2 _ _ hcc), h2'.up sr⟩
      by_cases ea : a = .es []
      · rw [decide_eq_true ea]
        by_cases ef : f ++ q = []
        · rw [if_neg (fun z => z.2 ef)] at ha'
          subst ha'
          refine ⟨_, rfl, iteT ⟨_, rfl, rfl, _, rfl, ?_⟩⟩
          rw [decide_eq_true (show V.str (js (f ++ q)) = V.str "" by rw [ef, js_nil])]
          exact iteF ⟨_, rfl, by show 2 ≤ sizeLine; decide, fun r hr' => out va _ se (h3.up (sc.trans se)) r hr'⟩
        · rw [if_pos ⟨ea, ef⟩] at ha'
          subst ha'
          refine ⟨_, rfl, iteT ⟨_, rfl, rfl, _, rfl, ?_⟩⟩
          rw [decide_eq_false (show ¬ V.str (js (f ++ q)) = V.str "" from fun z => js_ne (nf.app nq) ef (V.str.inj z))]
          refine iteT ⟨_, rfl, p, _, 0, .str z, rfl, rfl, SqL.of (se _ _ (sc _ _ hp)), atI_nat (j := 0) rfl, by show 1 ≤ sizeLine; decide, fun g hg => ?_⟩
          have sg := same_mk (o := .tup [.str z]) hg
          exact ⟨by show 2 ≤ sizeLine; decide, fun r hr' => out (.ref g) _ (se.trans sg) ⟨g, rfl, upd_same⟩ r hr'⟩
      · rw [decide_eq_false ea]
        rw [if_neg (fun z => ea z.1)] at ha'
        subst ha'
        exact ⟨_, rfl, iteF ⟨_, rfl, by show 2 ≤ sizeLine; decide, fun r hr' => out va _ se (h3.up (sc.trans se)) r hr'⟩⟩
end
end G

set_option maxHeartbeats 3900000
namespace G
open PySem PySem.Spec PyProof.Rows L2 TL
open C8 (pss_cut tCut pe_gc)
open CB
abbrev sListed : Stmt := top 50
/-- what stays while the stream is drawn from and one list grows -/
def But3 (st l p : Addr) (H H' : Hp) : Prop := ∀ b o, H b = some o → b ≠ st → b ≠ l → b ≠ p → H' b = some o
theorem But3.trans {st l p : Addr} {H H1 H2 : Hp} (a : But3 st l p H H1) (b : But3 st l p H1 H2) : But3 st l p H H2 := fun c o h n1 n2 n3 => b c o (a c o h n1 n2 n3) n1 n2 n3
theorem But.b3 {st l p : Addr} {H H1 : Hp} (a : But st l H H1) : But3 st l p H H1 := fun c o h n1 n2 _ => a c o h n1 n2
theorem But3.at {st l p : Addr} {H : Hp} {o : HO} : But3 st l p H (upd H p o) := fun c o' h n1 n2 n3 => by rw [upd_ne n3]; exact h
def SiK (st l : Addr) (H : Hp) (v : V) (s : Lk × An) : Prop := ∀ H', But st l H H' → SiIn H' v s
def SiK3 (st l p : Addr) (H : Hp) (v : V) (s : Lk × An) : Prop := ∀ H', But3 st l p H H' → SiIn H' v s
def AnK3 (st l p : Addr) (H : Hp) (v : V) (a : An) : Prop := ∀ H', But3 st l p H H' → AnIn H' v a
def spListed : Sp := fun vs H Q _ => ∃ (st l a : Addr) (c : Nat) (ss : List (Lk × An)), vs = [.ref st, .ref a] ∧ Strm H st l c ∧ c ≤ 900000 ∧ a ≠ st ∧ a ≠ l ∧ SisL H a ss ∧ ss.length ≤ 100 ∧
  ∀ (v : V) (xs : List V) (H' : Hp) (c' : Nat), (∀ H'', But st l H' H'' → RowAt H'' v xs) → xs.length = ss.length → (∀ (i : Nat) (x : V) (s : Lk × An), xs[i]? = some x → ss[i]? = some s → SiK st l H' x s) → But st l H H' → Strm H' st l c' → c' ≤ c + 2 * ss.length + 1 → Q v H'
theorem Strm.tup_ne {H : Hp} {st l : Addr} {c : Nat} {t : Addr} {xs : List V} (S : Strm H st l c) (h : H t = some (.tup xs)) : t ≠ st ∧ t ≠ l := by
  obtain ⟨ns, a, m, ⟨h1, h2⟩, _⟩ := S.ex
  exact ⟨ne_of h h1 (by intro z; cases z), ne_of h h2 (by intro z; cases z)⟩
section
variable {P : Program} {w : World} {K : PySem.W.Frag} {mg : Str → Option Value} {base : Heap} {fD : Addr} {fdD : FuncData}
theorem scLi : FnScope ["_law_stream", "_law_sights", "_law_found", "_law_look_here", "_law_answer", "_law_some", "_law_way"] ["_law_stream", "_law_sights"] (defScope sListed) := ⟨rfl, rfl, rfl, by decide +kernel, rfl, by decide +kernel, by decide +kernel⟩
theorem ok_listed {f : Addr} {fd : FuncData} (F : Fun K "_law_listed" "_law_listed" sListed f fd) (T : TB mg) (aD : aD' K mg fD fdD) (GD : FnOk P w K mg base CX0 1 fD fdD ["_law_stream", "_law_many"] spDraw) : FnOk P w K mg base CX0 2 f fd ["_law_stream", "_law_sights"] spListed := by
  refine F.ok scLi (fun vs H Q E h => ?_) (fun cdv A outer s H vs Q E hr h => ?_)
  · obtain ⟨st, l, a, c, ss, rfl, _⟩ := h
    rfl
  · obtain ⟨st, l, a, c, ss, rfl, S, hc, na1, na2, ⟨vs, ha, hal, hav⟩, hss, fin⟩ := h
    refine ⟨_, pss_cons (ps_set (i := 2) scLi.nd rfl (Or.inl rfl) (pe_lst pa_nil))
          (pss_cons (ps_for PassesOwn.never rfl (pi_list (pv 1)) (pg_tup rfl (pgs_cons (pg_name (i := 3) scLi.nd rfl (Or.inl rfl)) (pgs_cons (pg_name (i := 4) scLi.nd rfl (Or.inl rfl)) pgs_nil))) (pss_cut (ps_set (i := 5) scLi.nd rfl (Or.inl rfl) (pe_ifExp (PW.pt (pw_and (pt_val (pe_callB call_isi (by rfl) T.isinstance (by decide +kernel) (pa_cons (pv 4) (pa_cons (pe_bltn (v := .ty "tuple") (by rfl) T.tuple (by decide +kernel) rfl) pa_nil)))) (pw_and1 (pt_cmpR op_eq (pe_call GD (hr.mono (by decide)) rfl aD.m aD.k aD.b .nil pass0 (pa_cons (pv 0) (pa_cons pe_int pa_nil))) pe_int (nomark _))))) (pe_callTy call_list_of (by rfl) T.list (by decide +kernel) (pa_cons (pv 4) pa_nil)) (pv 4)))
          (pss_cons (ps_set (i := 6) scLi.nd rfl (Or.inl rfl) (pe_call GD (hr.mono (by decide)) rfl aD.m aD.k aD.b .nil pass0 (pa_cons (pv 0) (pa_cons pe_int pa_nil))))
          (pss_one (ps_expr (pe_bm PySem.F.plainAttrs_list PySem.F.slot_list_append PySem.F.type_list_append mt_append (pv 2) (pa_cons (pe_ix ix_list (pe_lst (pa_cons (pe_tup (pa_cons (pv 3) (pa_cons (pv 5) pa_nil))) (pa_cons (pe_lst (pa_cons (pv 3) (pa_cons (pv 5) pa_nil))) (pa_cons (pe_lst (pa_cons (pe_callTy call_list_of (by rfl) T.list (by decide +kernel) (pa_cons (pv 3) pa_nil)) (pa_cons (pv 5) pa_nil))) pa_nil)))) (pv 6) (fun _ _ => rfl)) pa_nil)))))))
          (pss_one (ps_ret (pe_ifExp (pt_cmpR op_eq (pe_call GD (hr.mono (by decide)) rfl aD.m aD.k aD.b .nil pass0 (pa_cons (pv 0) (pa_cons pe_int pa_nil))) pe_int (nomark _)) (pv 2) (pe_callTy call_tuple_of (by rfl) T.tuple (by decide +kernel) (pa_cons (pv 2) pa_nil)))))), ?_⟩
    refine ⟨Nat.zero_le _, fun p hp => ?_⟩
    have np := S.ne_new hp
    have sp := same_mk (o := .lst []) hp
    refine ⟨_, rfl, a, rfl, ⟨_, SqL.of (sp _ _ ha)⟩, for_it (walk_list (K := K) (a := a) (xs := vs)) (fun i σ H' => ∃ x3 x4 x5 x6, σ = [some (.ref st), some (.ref a), some (.ref p), x3, x4, x5, x6] ∧ But st l H H' ∧ ∃ (c' : Nat) (xs : List V), Strm H' st l c' ∧ c' ≤ c + 2 * i ∧ H' p = some (.lst xs) ∧ xs.length = i ∧
        ∀ (j : Nat) (x : V) (s : Lk × An), xs[j]? = some x → ss[j]? = some s → SiK3 st l p H' x s)
      ⟨none, none, none, none, rfl, But.same sp, c, [], S.up sp, by omega, upd_same, rfl, fun j x s h _ => by cases h⟩ (fun i σ H' _ q => by obtain ⟨_, _, _, _, _, B, _⟩ := q; exact SqL.of (B _ _ ha na1 na2)) ?_ ?_⟩
    · rintro i x _ _ H1 hi ⟨x3, x4, x5, x6, rfl, B1, c1, xs, S1, hc1, hx1, hxl, hxs⟩ ⟨rfl, hx⟩
      have his : i < ss.length := by omega
      have hsi : ss[i]? = some ss[i] := List.getElem?_eq_getElem his
      have S0 := hav i x ss[i] hx hsi
      obtain ⟨s0, e0⟩ : ∃ s0, ss[i] = s0 := ⟨_, rfl⟩
      rw [e0] at hsi S0
      obtain ⟨k, an⟩ := s0
      obtain ⟨t, u, va, rfl, h1, h2, h3⟩ := S0
      have nt := S.tup_ne h1
      have nu := S.tup_ne h2
      have h1' := B1 _ _ h1 nt.1 nt.2
      have h2' := B1 _ _ h2 nu.1 nu.2
      have pu : u ≠ p := ne_of h2' hx1 (by intro z; cases z)
      refine ⟨t, _, rfl, SqT.of h1', rfl, _, _, rfl, _, _, rfl, rfl, ?_⟩
      refine ⟨fun σ H2 => ∃ v5 c2, σ = [some (.ref st), some (.ref a), some (.ref p), some (.ref u), some va, some v5, x6] ∧ But st l H H2 ∧ But3 st l p H1 H2 ∧ Strm H2 st l c2 ∧ c2 ≤ c1 + 1 ∧ H2 p = some (.lst xs) ∧ AnK3 st l p H2 v5 an, ?_, ?_⟩
      · cases an with
        | no =>
          cases (show va = .non from h3)
          exact ⟨_, rfl, _, _, .type "NoneType", .type "tuple", false, rfl, .ty "tuple", .base .non, kit_ty (by decide +kernel), _, rfl, iteF ⟨_, rfl, _, c1, rfl, B1, fun _ _ h _ _ _ => h, S1, by omega, hx1, fun _ _ => rfl⟩⟩
        | tx z =>
          cases (show va = .str z from h3)
          exact ⟨_, rfl, _, _, .type "str", .type "tuple", false, rfl, .ty "tuple", .base (.str _), kit_ty (by decide +kernel), _, rfl, iteF ⟨_, rfl, _, c1, rfl, B1, fun _ _ h _ _ _ => h, S1, by omega, hx1, fun _ _ => rfl⟩⟩
        | es es =>
          obtain ⟨g, rfl, hg⟩ := h3
          have ng := S.tup_ne hg
          have hg' := B1 _ _ hg ng.1 ng.2
          have pg : g ≠ p := ne_of hg' hx1 (by intro z; cases z)
          refine ⟨_, rfl, _, _, .type "tuple", .type "tuple", true, rfl, .ty "tuple", .base (.tup hg'), kit_ty (by decide +kernel), _, rfl, iteT ⟨_, rfl, st, l, c1, _, rfl, S1, by omega, by decide, by decide, fun d H2 d0 d1 B2 S2 => ⟨rfl, _, rfl, ite2 (fun _ => ?_) (fun _ => ?_)⟩⟩⟩
          · have hg2 := B2 _ _ hg' ng.1 ng.2
            refine ⟨_, rfl, g, _, rfl, .inr (SqT.of hg2), fun q hq => ?_⟩
            have nq := S2.ne_new hq
            have sq := same_mk (o := .lst (es.map entV)) hq
            have hx2 := B2 _ _ hx1 np.1 np.2
            have qp : q ≠ p := fun e => by rw [e, hx2] at hq; cases hq
            exact ⟨_, c1 + 1, rfl, (B1.trans B2).trans (But.same sq), (B2.trans (But.same sq)).b3, S2.up sq, by omega, sq _ _ hx2, fun H3 b3 => ⟨q, rfl, .inr (b3 _ _ upd_same nq.1 nq.2 qp)⟩⟩
          · exact ⟨_, rfl, _, c1 + 1, rfl, B1.trans B2, B2.b3, S2, by omega, B2 _ _ hx1 np.1 np.2, fun H3 b3 => ⟨g, rfl, .inl (b3 _ _ (B2 _ _ hg' ng.1 ng.2) ng.1 ng.2 pg)⟩⟩
      rintro _ H2 ⟨v5, c2, rfl, B2, b12, S2, hc2, hx2, A5⟩
      refine ⟨_, rfl, st, l, c2, _, rfl, S2, by omega, by decide, by decide, fun d H3 d0 d1 B3 S3 => ?_⟩
      have hx3 := B3 _ _ hx2 np.1 np.2
      have h2u := B3 _ _ (B2 _ _ h2 nu.1 nu.2) nu.1 nu.2
      refine ⟨_, rfl, .inl ⟨rfl, _, SqL.of hx3⟩, ?_⟩
      refine ⟨_, rfl, _, rfl, by show 2 ≤ sizeLine; decide, fun a1 ha1 => ⟨_, rfl, _, rfl, by show 2 ≤ sizeLine; decide, fun a2 ha2 => ?_⟩⟩
      have s1 := same_mk (o := .tup [.ref u, v5]) ha1
      generalize e4 : upd H3 a1 (.tup [.ref u, v5]) = H4 at *
      have k1 : H4 a1 = some (.tup [.ref u, v5]) := by rw [← e4]; exact upd_same
      have s2 := same_mk (o := .lst [.ref u, v5]) ha2
      generalize e5 : upd H4 a2 (.lst [.ref u, v5]) = H5 at *
      have k2 : H5 a2 = some (.lst [.ref u, v5]) := by rw [← e5]; exact upd_same
      have h5u := s2 _ _ (s1 _ _ h2u)
      refine ⟨_, rfl, u, _, rfl, .inr (SqT.of h5u), fun a3 ha3 => ?_⟩
      have s3 := same_mk (o := .lst (lkV k)) ha3
      generalize e6 : upd H5 a3 (.lst (lkV k)) = H6 at *
      have k3 : H6 a3 = some (.lst (lkV k)) := by rw [← e6]; exact upd_same
      refine ⟨_, rfl, by show 2 ≤ sizeLine; decide, fun a4 ha4 => ?_⟩
      have s4 := same_mk (o := .lst [.ref a3, v5]) ha4
      generalize e7 : upd H6 a4 (.lst [.ref a3, v5]) = H7 at *
      have k4 : H7 a4 = some (.lst [.ref a3, v5]) := by rw [← e7]; exact upd_same
      refine ⟨by show 3 ≤ sizeLine; decide, fun a5 ha5 => ?_⟩
      have s5 := same_mk (o := .lst [.ref a1, .ref a2, .ref a4]) ha5
      generalize e8 : upd H7 a5 (.lst [.ref a1, .ref a2, .ref a4]) = H8 at *
      have k5 : H8 a5 = some (.lst [.ref a1, .ref a2, .ref a4]) := by rw [← e8]; exact upd_same
      have s38 : Same H3 H8 := s1.trans (s2.trans (s3.trans (s4.trans s5)))
      have S8 := S3.up s38
      have hx8 := s38 _ _ hx3
      have B8 : But st l H H8 := (B2.trans B3).trans (But.same s38)
      have b18 : But3 st l p H1 H8 := b12.trans (B3.trans (But.same s38)).b3
      have A8 : AnK3 st l p H8 v5 an := fun H9 b => A5 H9 ((B3.trans (But.same s38)).b3.trans b)
      have new3 : ∀ {q : Addr} {H0 : Hp} , H0 q = none → Same H3 H0 → q ≠ st ∧ q ≠ l ∧ q ≠ p := fun hq sq => ⟨((S3.up sq).ne_new hq).1, ((S3.up sq).ne_new hq).2, fun e => by rw [e, sq _ _ hx3] at hq; cases hq⟩
      have n1 := new3 ha1 (Same.refl _)
      have n2 := new3 ha2 s1
      have n3 := new3 ha3 (s1.trans s2)
      have n4 := new3 ha4 (s1.trans (s2.trans s3))
      have done : ∀ x : V, SiK3 st l p H8 x (k, an) → ∃ x3 x4 x5 x6', [some (.ref st), some (.ref a), some (.ref p), some (.ref u), some va, some v5, some (.int d)] = [some (.ref st), some (.ref a), some (.ref p), x3, x4, x5, x6'] ∧ But st l H (upd H8 p (.lst (xs ++ [x]))) ∧ ∃ (c' : Nat) (ys : List V), Strm (upd H8 p (.lst (xs ++ [x]))) st l c' ∧ c' ≤ c + 2 * (i + 1) ∧ upd H8 p (.lst (xs ++ [x])) p = some (.lst ys) ∧ ys.length = i + 1 ∧
          ∀ (j : Nat) (y : V) (s : Lk × An), ys[j]? = some y → ss[j]? = some s → SiK3 st l p (upd H8 p (.lst (xs ++ [x]))) y s := fun x hxk => by
        refine ⟨_, _, _, _, rfl, B8.put hp, c2 + 1, xs ++ [x], S8.put np, by omega, upd_same, by rw [List.length_append, hxl]; rfl, fun j y s hy hs => ?_⟩
        intro H9 b9
        have b89 : But3 st l p H8 H9 := But3.at.trans b9
        by_cases hj : j < i
        · rw [List.getElem?_append_left (by omega)] at hy
          exact hxs j y s hy hs H9 (b18.trans b89)
        · rw [List.getElem?_append_right (by omega)] at hy
          have ej : j = i := by
            have := (List.getElem?_eq_some_iff.mp hy).1
            simp at this
            omega
          subst ej
          rw [hxl, Nat.sub_self] at hy
          cases hy
          rw [hsi] at hs
          cases hs
          exact hxk H9 b89
      have hu8 := s38 _ _ h2u
      have c1' : SiK3 st l p H8 (.ref a1) (k, an) := fun H9 b => ⟨.ref u, v5, ⟨a1, rfl, .inl (b _ _ ((s2.trans (s3.trans (s4.trans s5))) _ _ k1) n1.1 n1.2.1 n1.2.2)⟩, ⟨u, rfl, .inl (b _ _ hu8 nu.1 nu.2 pu)⟩, A8 H9 b⟩
      have c2' : SiK3 st l p H8 (.ref a2) (k, an) := fun H9 b => ⟨.ref u, v5, ⟨a2, rfl, .inr (b _ _ ((s3.trans (s4.trans s5)) _ _ k2) n2.1 n2.2.1 n2.2.2)⟩, ⟨u, rfl, .inl (b _ _ hu8 nu.1 nu.2 pu)⟩, A8 H9 b⟩
      have c4' : SiK3 st l p H8 (.ref a4) (k, an) := fun H9 b => ⟨.ref a3, v5, ⟨a4, rfl, .inr (b _ _ (s5 _ _ k4) n4.1 n4.2.1 n4.2.2)⟩, ⟨a3, rfl, .inr (b _ _ ((s4.trans s5) _ _ k3) n3.1 n3.2.1 n3.2.2)⟩, A8 H9 b⟩
      have llen : xs.length < sizeLine := Nat.lt_of_lt_of_le (show xs.length < 1000 by omega) (by decide)
      obtain ⟨m, rfl⟩ := Int.eq_ofNat_of_zero_le d0
      match m, d1 with
      | 0, _ => exact ⟨_, rfl, a5, _, 0, .ref a1, rfl, rfl, SqL.of k5, atI_nat (j := 0) rfl, p, _, _, rfl, rfl, hx8, llen, done (.ref a1) c1'⟩
      | 1, _ => exact ⟨_, rfl, a5, _, 1, .ref a2, rfl, rfl, SqL.of k5, atI_nat (j := 1) rfl, p, _, _, rfl, rfl, hx8, llen, done (.ref a2) c2'⟩
      | 2, _ => exact ⟨_, rfl, a5, _, 2, .ref a4, rfl, rfl, SqL.of k5, atI_nat (j := 2) rfl, p, _, _, rfl, rfl, hx8, llen, done (.ref a4) c4'⟩
      | m + 3, d1 => omega
    · rintro _ H1 ⟨x3, x4, x5, x6, rfl, B1, c1, xs, S1, hc1, hx1, hxl, hxs⟩
      refine ⟨_, rfl, st, l, c1, _, rfl, S1, by omega, by decide, by decide, fun d H2 d0 d1 B2 S2 => ⟨rfl, _, rfl, ite2 (fun _ => ?_) (fun _ => ?_)⟩⟩
      · refine ⟨_, rfl, fin (.ref p) xs H2 (c1 + 1) (fun H3 b => ⟨p, rfl, .inr (b _ _ (B2 _ _ hx1 np.1 np.2) np.1 np.2)⟩) (by omega) (fun i x s hi hs H3 b => hxs i x s hi hs H3 (B2.trans b).b3) (B1.trans B2) S2 (by omega)⟩
      · refine ⟨_, rfl, p, _, rfl, .inl ⟨SqL.of (B2 _ _ hx1 np.1 np.2), fun q hq => ?_⟩⟩
        have nq := S2.ne_new hq
        have sq := same_mk (o := .tup xs) hq
        exact fin (.ref q) xs _ (c1 + 1) (fun H3 b => ⟨q, rfl, .inl (b _ _ upd_same nq.1 nq.2)⟩) (by omega) (fun i x s hi hs H3 b => hxs i x s hi hs H3 ((B2.trans (But.same sq)).trans b).b3) ((B1.trans B2).trans (But.same sq)) (S2.up sq) (by omega)
end
end G

set_option maxHeartbeats 3900000
namespace G
open PySem PySem.Spec PyProof.Rows L2 TL
open C8 (pss_cut tCut pe_gc)
open CB
abbrev sLaw : Stmt := top 52
theorem lkOn_ok {zs : List Str} {k : Lk} (nm : ∀ z ∈ zs, IsNm z) (h : LkOn zs 3 k) : LkOk k := by
  cases k with
  | rd p => exact ⟨h.1, fun y hy => nm y (h.2.2 y hy), Nat.le_trans h.2.1 (by decide)⟩
  | ls p => exact ⟨fun y hy => nm y (h.2 y hy), Nat.le_trans h.1 (by decide)⟩
  | se n => exact nm n h
  | tl => trivial
theorem anOn_w {zs : List Str} {k : Lk} {a : An} (nm : ∀ z ∈ zs, IsNm z) (h : AnOk k a) (g : AnOn zs a) : AnW a := by
  cases a with
  | no => trivial
  | tx z => exact g
  | es l => exact ⟨fun e he => nm _ (g.1 e he), Nat.le_trans g.2 (by decide)⟩
def ShN (m : Nat) : Lk → Prop
  | .rd p => p.length ≤ m
  | .ls p => p.length ≤ m
  | _ => True
/-- what a shifted sight keeps to -/
theorem below_ok {zs : List Str} {k : Lk} {a : An} {f : List Str} {z : Str} {m : Nat} (nm : ∀ z ∈ zs, IsNm z) (hk : LkOk k) (km : ShN m k) (hm : m ≤ 10) (h : AnOk k a) (g : AnOn zs a) (nf : Nms f) (fl : f.length ≤ 3) (hz : z ∈ zs) : SiOk' (belowM f z (k, a)) ∧ Sz (belowM f z (k, a)) ∧ AnOn zs (belowM f z (k, a)).2 := by
  have w := anOn_w nm h g
  cases k with
  | rd p =>
    have nf' : Nms (f ++ p) := nf.app hk.2.1
    have fe : f ++ p ≠ [] := by simp [hk.1]
    have len : (f ++ p).length ≤ 13 := by
      have : p.length ≤ m := km
      rw [List.length_append]
      omega
    cases a with
    | no => exact ⟨⟨⟨⟨fe, nf', Nat.le_trans len (by decide)⟩, trivial⟩, ⟨nf', Nat.le_trans len (by decide)⟩, trivial⟩, ⟨Nat.le_trans len (by decide), trivial⟩, trivial⟩
    | tx y => exact ⟨⟨⟨⟨fe, nf', Nat.le_trans len (by decide)⟩, trivial⟩, ⟨nf', Nat.le_trans len (by decide)⟩, w⟩, ⟨Nat.le_trans len (by decide), trivial⟩, g⟩
    | es l => exact h.elim
  | ls p =>
    have nf' : Nms (f ++ p) := nf.app hk.1
    have len : (f ++ p).length ≤ 13 := by
      have : p.length ≤ m := km
      rw [List.length_append]
      omega
    have lk : LkOk (.ls (f ++ p)) ∧ LkW (.ls (f ++ p)) := ⟨⟨nf', Nat.le_trans len (by decide)⟩, ⟨nf', Nat.le_trans len (by decide)⟩⟩
    cases a with
    | no =>
      have fe : f ++ p ≠ [] := by
        have : p ≠ [] := h
        simp [this]
      exact ⟨⟨⟨lk.1, fe⟩, lk.2, trivial⟩, ⟨Nat.le_trans len (by decide), trivial⟩, trivial⟩
    | tx y => exact h.elim
    | es l =>
      have e : belowM f z (.ls p, .es l) = (.ls (f ++ p), if l = [] ∧ f ++ p ≠ [] then .es [(z, false)] else .es l) := rfl
      rw [e]
      by_cases c : l = [] ∧ f ++ p ≠ []
      · rw [if_pos c]
        have one : Ents [(z, false)] := ⟨fun x hx => by rw [List.mem_singleton.mp hx]; exact nm _ hz, List.pairwise_singleton _ _, (show 1 ≤ 1000 by decide)⟩
        exact ⟨⟨⟨lk.1, one, .inl (by simp)⟩, lk.2, one.1, (show 1 ≤ 1000 by decide)⟩, ⟨Nat.le_trans len (by decide), (show 1 ≤ 20 by decide)⟩, fun x hx => by rw [List.mem_singleton.mp hx]; exact hz, (show 1 ≤ 20 by decide)⟩
      · rw [if_neg c]
        refine ⟨⟨⟨lk.1, h.1, ?_⟩, lk.2, w⟩, ⟨Nat.le_trans len (by decide), g.2⟩, g⟩
        by_cases hl : l = []
        · refine .inr ?_
          cases hfp : f ++ p with
          | nil => rfl
          | cons x y => exact absurd ⟨hl, by simp [hfp]⟩ c
        · exact .inl hl
  | se n =>
    cases a with
    | es l => exact h.elim
    | no => exact ⟨⟨⟨hk, h⟩, hk, trivial⟩, ⟨trivial, trivial⟩, trivial⟩
    | tx y => exact ⟨⟨⟨hk, h⟩, hk, w⟩, ⟨trivial, trivial⟩, g⟩
  | tl =>
    cases a with
    | es l => exact h.elim
    | no => exact h.elim
    | tx y => exact ⟨⟨⟨trivial, h⟩, trivial, w⟩, ⟨trivial, trivial⟩, g⟩
theorem below_fst (f : List Str) (z : Str) (s : Lk × An) : (belowM f z s).1 = belowL f s.1 := rfl
theorem belowL_nil (k : Lk) : belowL [] k = k := by cases k <;> rfl
theorem bars_sym (s s' : Lk × An) : barsM s s' = barsM s' s := by
  unfold barsM
  by_cases e : s.1 = s'.1
  · rw [if_pos e, if_pos e.symm]
    congr 1
    exact decide_eq_decide.mpr eq_comm
  · rw [if_neg e, if_neg (fun z => e z.symm), Bool.or_comm]
theorem bars_one (k : Lk) (a a' : An) : barsM (k, a) (k, a') = !decide (((k, a) : Lk × An) = (k, a')) := by
  unfold barsM
  rw [if_pos rfl]
  congr 1
  exact decide_eq_decide.mpr ⟨fun e => by rw [show a = a' from e], fun e => (Prod.mk.inj e).2⟩
def spLaw (K : PySem.W.Frag) : Sp := fun vs H Q _ => ∃ (a : Addr) (ns : List Int), vs = [.ref a] ∧ ns.length ≤ 63 ∧ SqL K H a (ns.map V.int) ∧ ∀ H', Q (.bl true) H'
/-- sights in a list, with what they keep to -/
def Sis (H : Hp) (st l D : Addr) (ss : List (Lk × An)) : Prop := D ≠ st ∧ D ≠ l ∧ SisL H D ss
theorem Sis.but {H H' : Hp} {st l D : Addr} {c : Nat} {ss : List (Lk × An)} (h : Sis H st l D ss) (S : Strm H st l c) (B : But st l H H') : Sis H' st l D ss := by
  obtain ⟨h1, h2, vs, h3, h4, h5⟩ := h
  refine ⟨h1, h2, vs, B _ _ h3 h1 h2, h4, fun i v s hv hs => ?_⟩
  exact (h5 i v s hv hs).upT fun b xs hb => B _ _ hb (S.tup_ne hb).1 (S.tup_ne hb).2
end G

set_option maxHeartbeats 3900000
namespace G
open PySem PySem.Spec PyProof.Rows L2 TL
open C8 (pss_cut tCut pe_gc)
open CB
theorem cut_drop (xs : List V) (i : Nat) : cutV xs (some (i : Int)) none = xs.drop i := by
  show (xs.drop (HT.sIx xs.length 0 (some ((i : Nat) : Int)))).take (HT.sIx xs.length xs.length none - HT.sIx xs.length 0 (some ((i : Nat) : Int))) = xs.drop i
  rw [HT.sIx_nat, HT.sIx_none]
  by_cases h : i ≤ xs.length
  · rw [Nat.min_eq_left h, List.take_of_length_le (by rw [List.length_drop]; exact Nat.le_refl _)]
  · rw [List.drop_eq_nil_of_le (by omega), List.drop_eq_nil_of_le (by omega)]
    exact List.take_nil
section
variable {P : Program} {w : World} {K : PySem.W.Frag} {mg : Str → Option Value} {base : Heap} {fD fPo fPa fLs fSo fBl fLi fFi fBr : Addr} {fdD fdPo fdPa fdLs fdSo fdBl fdLi fdFi fdBr : FuncData}
theorem scLw : FnScope ["_law_script", "_law_stream", "_law_turn", "_law_pool_here", "_law_front", "_law_look_here", "_law_some", "_law_one", "_law_k", "_law_other", "_law_due", "_law_a", "_law_b"] ["_law_script"] (defScope sLaw) := ⟨rfl, rfl, rfl, by decide +kernel, rfl, by decide +kernel, by decide +kernel⟩
theorem ok_law {f : Addr} {fd : FuncData} (F : Fun K "law" "law" sLaw f fd) (T : TB mg) (aD : aD' K mg fD fdD) (GD : FnOk P w K mg base CX0 1 fD fdD ["_law_stream", "_law_many"] spDraw)
    (aPo : At K mg "_law_pool" fPo fdPo ["_law_stream", "_law_many"]) (GPo : FnOk P w K mg base CX0 4 fPo fdPo ["_law_stream", "_law_many"] spPool)
    (aPa : At K mg "_law_path" fPa fdPa ["_law_stream", "_law_pool_here", "_law_most"]) (GPa : FnOk P w K mg base CX0 3 fPa fdPa ["_law_stream", "_law_pool_here", "_law_most"] spPath)
    (aLs : At K mg "_law_looks" fLs fdLs ["_law_stream", "_law_pool_here", "_law_many"]) (GLs : FnOk P w K mg base CX0 5 fLs fdLs ["_law_stream", "_law_pool_here", "_law_many"] spLooks)
    (aSo : At K mg "_law_some_answer" fSo fdSo ["_law_stream", "_law_pool_here", "_law_look_here"]) (GSo : FnOk P w K mg base CX0 3 fSo fdSo ["_law_stream", "_law_pool_here", "_law_look_here"] spSome)
    (aBl : At K mg "_law_below" fBl fdBl ["_law_sight", "_law_front", "_law_pool_here"]) (GBl : FnOk P w K mg base CX0 1 fBl fdBl ["_law_sight", "_law_front", "_law_pool_here"] spBelow)
    (aLi : At K mg "_law_listed" fLi fdLi ["_law_stream", "_law_sights"]) (GLi : FnOk P w K mg base CX0 2 fLi fdLi ["_law_stream", "_law_sights"] spListed)
    (aFi : At K mg "_law_fits" fFi fdFi ["_law_sights", "_law_files", "_law_folders"]) (GFi : FnOk P w K mg base CX0 3 fFi fdFi ["_law_sights", "_law_files", "_law_folders"] spFits)
    (aBars : At K mg "bars" fBr fdBr ["one", "other"]) (GBars : FnOk P w K mg base CX0 8 fBr fdBr ["one", "other"] spBars) :
    FnOk P w K mg base CX0 9 f fd ["_law_script"] (spLaw K) := by
  refine F.ok scLw (fun vs H Q E h => ?_) (fun cdv A outer s H vs Q E hr h => ?_)
  · obtain ⟨a, ns, rfl, _⟩ := h
    rfl
  · have hu := hr.units
    obtain ⟨a, ns, rfl, hl, hS, fin⟩ := h
    refine ⟨_, pss_cut (ps_set (i := 1) scLw.nd rfl (Or.inr rfl) (pe_lst (pa_cons (pe_callTy call_list_of (by rfl) T.list (by decide +kernel) (pa_cons (pv 0) pa_nil)) (pa_cons pe_int (pa_cons pe_int (pa_cons pe_int pa_nil))))))
          (pss_cons (ps_for PassesOwn.never rfl (pi_range1 rfl T.range (pa_cons pe_int pa_nil)) (pg_name (i := 2) scLw.nd rfl (Or.inl rfl)) (pss_cons (ps_asg (pe_tup (pa_cons (pe_call GPo (hr.mono (by decide)) rfl aPo.m aPo.k aPo.b .nil pass0 (pa_cons (pv 1) (pa_cons (pe_op op_add pe_int (pe_call GD (hr.mono (by decide)) rfl aD.m aD.k aD.b .nil pass0 (pa_cons (pv 1) (pa_cons pe_int pa_nil)))) pa_nil))) (pa_cons pe_str pa_nil))) (pg_tup rfl (pgs_cons (pg_name (i := 3) scLw.nd rfl (Or.inr rfl)) (pgs_cons (pg_name (i := 4) scLw.nd rfl (Or.inr rfl)) pgs_nil))))
          (pss_cut (ps_if (pt_cmpR op_eq (pe_call GD (hr.mono (by decide)) rfl aD.m aD.k aD.b .nil pass0 (pa_cons (pv 1) (pa_cons pe_int pa_nil))) pe_int (nomark _)) (pss_one (ps_set (i := 4) scLw.nd rfl (Or.inr rfl) (pe_op op_add_str (pe_call GPa (hr.mono (by decide)) rfl aPa.m aPa.k aPa.b .nil pass0 (pa_cons (pv 1) (pa_cons (pv 3) (pa_cons pe_int pa_nil)))) pe_str))) (pss_nil))
          (pss_cut (ps_set (i := 6) scLw.nd rfl (Or.inl rfl) (pe_slice sl_list (pe_lc (own := [("_law_look_here", 5)]) (g := gName 5) (tt := tYes) rfl scLw.nd (pi_list (pe_call GLs (hr.mono (by decide)) rfl aLs.m aLs.k aLs.b .nil pass0 (pa_cons (pv 1) (pa_cons (pv 3) (pa_cons pe_int pa_nil))))) (blkOk_by (own := [("_law_look_here", 5)]) (N := ["_law_script", "_law_stream", "_law_turn", "_law_pool_here", "_law_front", "_law_look_here", "_law_some", "_law_one", "_law_k", "_law_other", "_law_due", "_law_a", "_law_b"]) (sc := defScope sLaw) (by decide +kernel)) (fun _ _ _ _ _ => (pg_name (i := 5) scLw.nd rfl (Or.inl rfl))) (fun _ _ _ _ _ => pts_nil) (fun _ _ _ _ _ => (by exact (pe_tup (pa_cons (pv 5) (pa_cons (pe_call GSo (hr.mono (by decide)) rfl aSo.m aSo.k aSo.b .nil pass0 (pa_cons (pv 1) (pa_cons (pv 3) (pa_cons (pv 5) pa_nil)))) pa_nil)))))) po_none (po_some pe_int)))
          (pss_cut (ps_setLc (i := 6) (own := [("_law_one", 7)]) (g := gName 7) (tt := tYes) rfl scLw.nd rfl rfl (sw_true rfl rfl rfl (by decide +kernel)) (pi_list (pv 6)) (blkOk_by (own := [("_law_one", 7)]) (N := ["_law_script", "_law_stream", "_law_turn", "_law_pool_here", "_law_front", "_law_look_here", "_law_some", "_law_one", "_law_k", "_law_other", "_law_due", "_law_a", "_law_b"]) (sc := defScope sLaw) (by decide +kernel)) (fun _ _ _ _ _ => (pg_name (i := 7) scLw.nd rfl (Or.inl rfl))) (fun _ _ _ _ _ => pts_nil) (fun _ _ _ _ _ => (by exact (pe_call GBl (hr.mono (by decide)) rfl aBl.m aBl.k aBl.b .nil pass0 (pa_cons (pv 7) (pa_cons (pv 4) (pa_cons (pv 3) pa_nil)))))))
          (pss_one (ps_for PassesOwn.never rfl (pi_enum rfl T.enumerate (pa_cons (pv 6) pa_nil)) (pg_tup rfl (pgs_cons (pg_name (i := 8) scLw.nd rfl (Or.inl rfl)) (pgs_cons (pg_name (i := 7) scLw.nd rfl (Or.inl rfl)) pgs_nil))) (pss_cons (ps_for PassesOwn.never rfl (pi_list (pe_slice sl_list (pv 6) (po_some (pv 8)) po_none)) (pg_name (i := 9) scLw.nd rfl (Or.inl rfl)) (pss_cut (ps_set (i := 10) scLw.nd rfl (Or.inl rfl) (pe_not (pe_call GFi (hr.mono (by decide)) rfl aFi.m aFi.k aFi.b .nil pass0 (pa_cons (pe_lst (pa_cons (pv 7) (pa_cons (pv 9) pa_nil))) (pa_cons (pe_lst pa_nil) (pa_cons (pe_lst pa_nil) pa_nil))))))
          (pss_cut (ps_par (i := 11) (j := 12) (by rfl) scLw.nd rfl rfl (by decide) rfl rfl (pa_cons (pe_ix ix_row (pe_call GLi (hr.mono (by decide)) rfl aLi.m aLi.k aLi.b .nil pass0 (pa_cons (pv 1) (pa_cons (pe_lst (pa_cons (pv 7) pa_nil)) pa_nil))) pe_int (fun _ _ => rfl)) (pa_cons (pe_ix ix_row (pe_call GLi (hr.mono (by decide)) rfl aLi.m aLi.k aLi.b .nil pass0 (pa_cons (pv 1) (pa_cons (pe_lst (pa_cons (pv 9) pa_nil)) pa_nil))) pe_int (fun _ _ => rfl)) pa_nil)) (by rfl))
          (pss_one (ps_if (PW.pt (pw_or (pt_cmpR op_ne (pe_call GBars (hr.mono (by decide)) rfl aBars.m aBars.k aBars.b .nil pass0 (pa_cons (pv 11) (pa_cons (pv 12) pa_nil))) (pv 10) (nomark _)) (pw_or1 (pt_cmpR op_ne (pe_call GBars (hr.mono (by decide)) rfl aBars.m aBars.k aBars.b .nil pass0 (pa_cons (pv 12) (pa_cons (pv 11) pa_nil))) (pv 10) (nomark _))))) (pss_one (ps_ret pe_bl)) (pss_nil))))))
          (pss_cons (ps_set (i := 5) scLw.nd rfl (Or.inl rfl) (pe_ix ix_tup (pv 7) pe_int (fun _ _ => rfl)))
          (pss_cons (ps_set (i := 9) scLw.nd rfl (Or.inl rfl) (pe_call GBl (hr.mono (by decide)) rfl aBl.m aBl.k aBl.b .nil pass0 (pa_cons (pe_tup (pa_cons (pv 5) (pa_cons (pe_call GSo (hr.mono (by decide)) rfl aSo.m aSo.k aSo.b .nil pass0 (pa_cons (pv 1) (pa_cons (pv 3) (pa_cons (pv 5) pa_nil)))) pa_nil))) (pa_cons pe_str (pa_cons (pv 3) pa_nil)))))
          (pss_one (ps_if (pt_cmpR op_ne (pe_call GBars (hr.mono (by decide)) rfl aBars.m aBars.k aBars.b .nil pass0 (pa_cons (pv 7) (pa_cons (pv 9) pa_nil))) (pe_cmpR (op_neD hu) (pv 7) (pv 9) (nomark _)) (nomark _)) (pss_one (ps_ret pe_bl)) (pss_nil)))))))))))))
          (pss_one (ps_ret pe_bl))), ?_⟩
    -- stream = [list(script), 0, 0, 0]
    refine ⟨fun σ H' => ∃ st l, σ = [some (.ref a), some (.ref st), none, none, none, none, none, none, none, none, none, none, none] ∧ Strm H' st l 0,
      ⟨_, rfl, a, _, rfl, .inl hS, fun l hl0 => ⟨by show 4 ≤ sizeLine; decide, fun st hst => ⟨st, l, rfl, ?_⟩⟩⟩, ?_⟩
    · have e : upd (upd H l (.lst (ns.map V.int))) st (.lst [.ref l, .int 0, .int 0, .int 0]) l = some (.lst (ns.map V.int)) := same_new hst _ _ upd_same
      exact ⟨ns, 0, 0, ⟨upd_same, e⟩, hl, by decide, by decide, by decide⟩
    rintro _ H0 ⟨st, l, rfl, S0⟩
    -- the turns
    refine ⟨4, rfl, by decide, by decide, for_range (lo := 0) (n := 4) (fun i σ H' => ∃ x2 x3 x4 x5 x6 x7 x8 x9 x10 x11 x12 c, σ = [some (.ref a), some (.ref st), x2, x3, x4, x5, x6, x7, x8, x9, x10, x11, x12] ∧ Strm H' st l c ∧ c ≤ 4000 * i)
      ⟨none, none, none, none, none, none, none, none, none, none, none, 0, rfl, S0, Nat.le_refl _⟩ ?_ (fun σ H1 h => fin _)⟩
    rintro i _ H1 hi ⟨x2, x3, x4, x5, x6, x7, x8, x9, x10, x11, x12, c, rfl, S1, hc⟩
    -- pool, front = (pool(stream, 2 + draw(2)), '')
    refine ⟨_, rfl, _, rfl, st, l, c, _, rfl, S1, by omega, by decide, by decide, fun d H2 d0 d1 B2 S2 => ⟨_, _, rfl, rfl, st, l, c + 1, _, rfl, S2, by omega, by omega, by omega, fun p zs H3 c3 hzl znd nm hp LP B3 S3 hc3 => ?_⟩⟩
    refine ⟨by show 2 ≤ sizeLine; decide, fun t0 ht0 => ⟨t0, _, rfl, SqT.of upd_same, rfl, _, _, rfl, _, _, rfl, rfl, ?_⟩⟩
    have st0 := same_mk (o := .tup [.ref p, .str ""]) ht0
    have LP4 := LP.but (But.same st0 : But st l H3 _)
    have S4 := S3.up st0
    have z0 : 0 < zs.length := by omega
    have z20 : zs.length < 20 := by omega
    generalize hH4 : upd H3 t0 (.tup [.ref p, .str ""]) = H4 at *
    refine ⟨fun σ H5 => ∃ y2 f c5, σ = [some (.ref a), some (.ref st), y2, some (.ref p), some (.str (bg f)), x5, x6, x7, x8, x9, x10, x11, x12] ∧ Nms f ∧ f.length ≤ 3 ∧ Pool H5 st l p zs ∧ Strm H5 st l c5 ∧ c5 ≤ c + 50, ?_, ?_⟩
    · refine ⟨_, rfl, st, l, c3, _, rfl, S4, by omega, by decide, by decide, fun d H5 d0 d1 B5 S5 => ⟨rfl, _, rfl, ite2 (fun _ => ?_) (fun _ => ⟨_, [], c3 + 1, rfl, fun y hy => absurd hy (by simp), by decide, LP4.but B5, S5, by omega⟩)⟩⟩
      refine ⟨_, rfl, _, rfl, st, l, p, c3 + 1, zs, 3, rfl, S5, by omega, LP4.but B5, z0, by omega, nm, by decide, by decide, fun ys H6 c6 y1 y3 yz B6 S6 hc6 => ?_⟩
      have ny : Nms ys := fun y hy => nm y (yz y hy)
      have ye : ys ≠ [] := by
        rintro rfl
        simp at y1
      have sl := js_len ny
      have hc6' : c6 ≤ c3 + 1 + 1 + 3 := hc6
      refine ⟨_, _, rfl, rfl, Nat.le_trans (show (js ys).length + ("/" : Str).length ≤ 28 from ?_) (by decide), ?_⟩
      · have : ("/" : Str).length = 1 := by decide +kernel
        omega
      · refine ⟨some (.int (0 + (i : Int))), ys, c6, ?_, ny, by omega, (LP4.but B5).but B6, S6, by omega⟩
        rw [show bg ys = js ys ++ "/" from if_neg ye]
        rfl
    rintro _ H5 ⟨y2, f, c5, rfl, nf, fl, LP5, S5, hc5⟩
    -- some = [(look, some_answer(stream, pool, look)) for look in looks(stream, pool, 12)][:7]
    refine ⟨fun σ H5 => ∃ y2 y5 y7 D ss c6, σ = [some (.ref a), some (.ref st), y2, some (.ref p), some (.str (bg f)), y5, some (.ref D), y7, x8, x9, x10, x11, x12] ∧ Pool H5 st l p zs ∧ Strm H5 st l c6 ∧ c6 ≤ c + 1000 ∧ Sis H5 st l D ss ∧ ss.length ≤ 7 ∧ ∀ s ∈ ss, LkOn zs 3 s.1 ∧ AnOk s.1 s.2 ∧ AnOn zs s.2, ?_, ?_⟩
    · refine ⟨_, rfl, _, rfl, st, l, p, c5, zs, 12, rfl, S5, by omega, LP5, z0, by omega, nm, by decide, by decide, fun D1 ks H6 c6 hkl hko hD1 LK B6 S6 hc6 => ?_⟩
      obtain ⟨kv, hk1, hk2, hk3⟩ := LK
      have n1 := S5.ne_new hD1
      have kl : kv.length ≤ 12 := by omega
      have hc6' : c6 ≤ c5 + 6 * 12 := hc6
      refine ⟨D1, rfl, ⟨_, SqL.of hk1⟩, fun D2 hD2 => ?_⟩
      have nD2 := S6.ne_new hD2
      have LP6 := LP5.but B6
      have d12 : D1 ≠ D2 := ne_of_none hk1 hD2
      refine lc_list (K := K) (a := D1) (xs := kv) (fun i H' => But st l H6 H' ∧ ∃ c', Strm H' st l c' ∧ c' ≤ c6 + 60 * i ∧ ∃ (vs : List V) (ss : List (Lk × An)), H' D2 = some (.lst vs) ∧ vs.length = i ∧ ss.length = i ∧ (∀ (j : Nat) (v : V) (s : Lk × An), vs[j]? = some v → ss[j]? = some s → SiAt H' v s) ∧ ∀ s ∈ ss, LkOn zs 3 s.1 ∧ AnOk s.1 s.2 ∧ AnOn zs s.2)
        ⟨But.same (same_mk hD2), c6, S6.up (same_mk hD2), by omega, [], [], upd_same, rfl, rfl, (fun j v s h _ => by cases h), (fun s hs => by cases hs)⟩ (fun i H' _ q => SqL.of (q.1 _ _ hk1 n1.1 n1.2)) ?_ ?_
      · rintro i x H7 hx ⟨B7, c7, S7, hc7, vs, ss, h7, hvl, hsl, hat, hco⟩
        have hi := (List.getElem?_eq_some_iff.mp hx).1
        have hki : ks[i]? = some (ks[i]'(by omega)) := List.getElem?_eq_getElem (by omega)
        obtain ⟨t, rfl, ht⟩ := hk3 i x _ hx hki
        have hkm : ks[i]'(by omega) ∈ ks := List.getElem_mem _
        obtain ⟨k, ek⟩ : ∃ k, ks[i]'(by omega) = k := ⟨_, rfl⟩
        rw [ek] at ht hkm
        have nt := S6.tup_ne ht
        have ht7 := B7 _ _ ht nt.1 nt.2
        refine ⟨wipe1 _, _, rfl, _, rfl, _, rfl, _, rfl, st, l, p, t, c7, zs, k, rfl, S7, by omega, LP6.but B7, znd, z0, z20, nm, ht7, lkOn_w nm (by decide) (hko k hkm), fun v an H8 c8 hv hok hon B8 S8 hc8 => ⟨by show 2 ≤ sizeLine; decide, fun r hr' => ?_⟩⟩
        have sr := same_mk (o := .tup [.ref t, v]) hr'
        have h8 := sr _ _ (B8 _ _ h7 nD2.1 nD2.2)
        have rD : r ≠ D2 := fun e => by rw [e, B8 _ _ h7 nD2.1 nD2.2] at hr'; cases hr'
        have B9 : But st l H6 (upd (upd H8 r (.tup [.ref t, v])) D2 (.lst (vs ++ [.ref r]))) := ((B7.trans B8).trans (But.same sr)).put hD2
        have tups : ∀ {b xs}, H8 b = some (.tup xs) → upd (upd H8 r (.tup [.ref t, v])) D2 (.lst (vs ++ [.ref r])) b = some (.tup xs) := fun {b xs} hb => by
          rw [upd_ne (ne_of (sr _ _ hb) h8 (by intro z; cases z))]
          exact sr _ _ hb
        refine ⟨vs, h8, Nat.lt_of_lt_of_le (show vs.length < 100 by omega) (by decide), B9, c8, (S8.up sr).put nD2, by omega, vs ++ [.ref r], ss ++ [(k, an)], upd_same, by rw [List.length_append, hvl]; rfl, by rw [List.length_append, hsl]; rfl, ?_, ?_⟩
        · intro j y s hy hs
          by_cases hj : j < i
          · rw [List.getElem?_append_left (by omega)] at hy hs
            exact (hat j y s hy hs).upT fun b xs hb => tups (B8 _ _ hb (S7.tup_ne hb).1 (S7.tup_ne hb).2)
          · rw [List.getElem?_append_right (by omega)] at hy hs
            have ej : j = i := by
              have := (List.getElem?_eq_some_iff.mp hy).1
              simp at this
              omega
            subst ej
            rw [hvl, Nat.sub_self] at hy
            rw [hsl, Nat.sub_self] at hs
            cases hy
            cases hs
            refine ⟨r, t, v, rfl, ?_, tups (B8 _ _ ht7 nt.1 nt.2), ?_⟩
            · rw [upd_ne rD]
              exact upd_same
            · cases an with
              | no => exact hv
              | tx z => exact hv
              | es es =>
                obtain ⟨b, rfl, hb⟩ := hv
                exact ⟨b, rfl, tups hb⟩
        · intro s hs
          rcases List.mem_append.mp hs with hs | hs
          · exact hco s hs
          · rw [List.mem_singleton.mp hs]
            exact ⟨hko k hkm, hok, hon⟩
      rintro H7 ⟨B7, c7, S7, hc7, vs, ss, h7, hvl, hsl, hat, hco⟩
      refine ⟨_, rfl, D2, _, rfl, SqL.of h7, fun u hu => ?_⟩
      rw [show cutV vs none (some (7 : Int)) = vs.take 7 from cut_take vs 7]
      have su := same_mk (o := .lst (vs.take 7)) hu
      have nu := S7.ne_new hu
      refine ⟨_, _, _, u, ss.take 7, c7, rfl, (LP6.but B7).but (But.same su), S7.up su, by omega, ⟨nu.1, nu.2, vs.take 7, upd_same, by rw [List.length_take, List.length_take]; omega, fun i v s hv hs => ?_⟩, by rw [List.length_take]; omega, fun s hs => hco s (List.mem_of_mem_take hs)⟩
      rw [List.getElem?_take] at hv hs
      split at hv
      · rename_i h
        rw [if_pos h] at hs
        exact (hat i v s hv hs).up su
      · cases hv
    rintro _ H6 ⟨y2, y5, y7, D, ss, c6, rfl, LP6, S6, hc6, hD6, hsl, hco⟩
    -- some = [below(one, front, pool) for one in some]
    obtain ⟨zh, zr, ez⟩ : ∃ zh zr, zs = zh :: zr := by
      cases zs with
      | nil => simp at z0
      | cons x y => exact ⟨x, y, rfl⟩
    have zm : zh ∈ zs := by rw [ez]; exact List.mem_cons_self ..
    obtain ⟨nD1, nD2, vs, hv1, hv2, hv3⟩ := hD6
    have bel : ∀ s ∈ ss, SiOk' (belowM f zh s) ∧ Sz (belowM f zh s) ∧ AnOn zs (belowM f zh s).2 ∧ ShN 6 (belowM f zh s).1 := by
      rintro ⟨k, an⟩ hs
      obtain ⟨c1, c2, c3⟩ := hco _ hs
      have km : ShN 3 k := by
        cases k with
        | rd p => exact c1.2.1
        | ls p => exact c1.1
        | se n => trivial
        | tl => trivial
      obtain ⟨e1, e2, e3⟩ := below_ok (f := f) (m := 3) nm (lkOn_ok nm c1) km (by decide) c2 c3 nf fl zm
      refine ⟨e1, e2, e3, ?_⟩
      cases k with
      | rd p =>
        show (f ++ p).length ≤ 6
        have : p.length ≤ 3 := km
        rw [List.length_append]
        omega
      | ls p =>
        show (f ++ p).length ≤ 6
        have : p.length ≤ 3 := km
        rw [List.length_append]
        omega
      | se n => trivial
      | tl => trivial
    refine ⟨fun σ H5 => ∃ y2 y5 y7 D ss c6, σ = [some (.ref a), some (.ref st), y2, some (.ref p), some (.str (bg f)), y5, some (.ref D), y7, x8, x9, x10, x11, x12] ∧ Pool H5 st l p zs ∧ Strm H5 st l c6 ∧ c6 ≤ c + 1000 ∧ Sis H5 st l D ss ∧ ss.length ≤ 7 ∧ ∀ s ∈ ss, SiOk' s ∧ Sz s ∧ AnOn zs s.2 ∧ ShN 6 s.1, ?_, ?_⟩
    · refine ⟨_, rfl, D, rfl, ⟨_, SqL.of hv1⟩, fun D2 hD2 => ?_⟩
      have n2 := S6.ne_new hD2
      refine lc_list (K := K) (a := D) (xs := vs) (fun i H' => Same H6 H' ∧ ∃ ws : List V, H' D2 = some (.lst ws) ∧ ws.length = i ∧ ∀ (j : Nat) (v : V) (s : Lk × An), ws[j]? = some v → ss[j]? = some s → SiAt H' v (belowM f zh s))
        ⟨same_mk hD2, [], upd_same, rfl, (fun j v s h _ => by cases h)⟩ (fun i H' _ q => SqL.of (q.1 _ _ hv1)) ?_ ?_
      · rintro i x H7 hx ⟨s7, ws, h7, hwl, hat⟩
        have hi := (List.getElem?_eq_some_iff.mp hx).1
        have hsi : ss[i]? = some (ss[i]'(by omega)) := List.getElem?_eq_getElem (by omega)
        have S0 := (hv3 i x _ hx hsi).up s7
        obtain ⟨c1, c2, c3⟩ := hco _ (List.getElem_mem (by omega : i < ss.length))
        refine ⟨wipe1 _, _, rfl, _, rfl, _, rfl, x, _, f, p, zh, zr, rfl, S0, ⟨lkOn_w nm (by decide) c1, anOn_w nm c2 c3⟩, c2, nf, by omega, by rw [← ez]; exact s7 _ _ LP6.h, fun v' H8 s8 hv' => ?_⟩
        have h8 := s8 _ _ h7
        have tups : ∀ {b xs}, H8 b = some (.tup xs) → upd H8 D2 (.lst (ws ++ [v'])) b = some (.tup xs) := fun {b xs} hb => by
          rw [upd_ne (ne_of hb h8 (by intro z; cases z))]
          exact hb
        refine ⟨ws, h8, Nat.lt_of_lt_of_le (show ws.length < 100 by omega) (by decide), same_ch (s7.trans s8) hD2, ws ++ [v'], upd_same, by rw [List.length_append, hwl]; rfl, ?_⟩
        intro j y s hy hs
        by_cases hj : j < i
        · rw [List.getElem?_append_left (by omega)] at hy
          exact (hat j y s hy hs).upT fun b xs hb => tups (s8 _ _ hb)
        · rw [List.getElem?_append_right (by omega)] at hy
          have ej : j = i := by
            have := (List.getElem?_eq_some_iff.mp hy).1
            simp at this
            omega
          subst ej
          rw [hwl, Nat.sub_self] at hy
          cases hy
          rw [hsi] at hs
          cases hs
          exact hv'.upT fun b xs hb => tups hb
      rintro H7 ⟨s7, ws, h7, hwl, hat⟩
      refine ⟨_, _, _, D2, ss.map (belowM f zh), c6, rfl, LP6.but (But.same s7), S6.up s7, hc6, ⟨n2.1, n2.2, ws, h7, by rw [List.length_map]; omega, fun i v s hv hs => ?_⟩, by rw [List.length_map]; exact hsl, fun s hs => ?_⟩
      · rw [List.getElem?_map] at hs
        match hq : ss[i]? with
        | none => rw [hq] at hs; cases hs
        | some y =>
          rw [hq] at hs
          cases hs
          exact hat i v y hv hq
      · obtain ⟨y, hy, rfl⟩ := List.mem_map.mp hs
        exact bel y hy
    clear hco hv1 hv2 hv3 nD1 nD2 hsl bel
    rintro _ H7 ⟨y2', y5', y7', D', ss', c7, rfl, LP7, S7, hc7, ⟨nD1, nD2, vs', hv1, hv2, hv3⟩, hsl, hco⟩
    -- for k, one in enumerate(some)
    have vl : vs'.length ≤ 7 := by omega
    refine ⟨_, rfl, D', vs', rfl, SqL.of hv1, for_it (walk_enum (K := K) (a := D') (xs := vs')) (fun m σ H' => But st l H7 H' ∧ ∃ y2 y5 y7 y8 y9 y10 y11 y12 c', σ = [some (.ref a), some (.ref st), y2, some (.ref p), some (.str (bg f)), y5, some (.ref D'), y7, y8, y9, y10, y11, y12] ∧ Strm H' st l c' ∧ c' ≤ c + 1000 + 200 * m)
      ⟨fun _ _ h _ _ => h, _, _, _, _, _, _, _, _, c7, rfl, S7, by omega⟩ (fun m σ H' _ q => SqL.of (q.1 _ _ hv1 nD1 nD2)) ?_ ?_⟩
    · rintro m _ _ H8 H9 hm ⟨B8, y2, y5, y7, y8, y9, y10, y11, y12, c8, rfl, S8, hc8⟩ ⟨T', x, one, rfl, hT, rfl, ex, ey⟩
      cases ex
      have hms : m < ss'.length := by omega
      have hsm : ss'[m]? = some ss'[m] := List.getElem?_eq_getElem hms
      obtain ⟨sm, esm⟩ : ∃ sm, ss'[m] = sm := ⟨_, rfl⟩
      have hsmem : sm ∈ ss' := by rw [← esm]; exact List.getElem_mem hms
      rw [esm] at hsm
      have S1' := hv3 m one sm ey hsm
      obtain ⟨ok1, sz1, on1, sh1⟩ := hco sm hsmem
      refine ⟨T', _, rfl, SqT.of upd_same, rfl, _, _, rfl, _, _, rfl, rfl, ?_⟩
      have sT := same_mk (o := .tup [V.int (m : Int), one]) hT
      have B9 : But st l H7 (upd H8 T' (.tup [V.int (m : Int), one])) := B8.trans (But.same sT)
      have S9 := S8.up sT
      generalize hH9 : upd H8 T' (.tup [V.int (m : Int), one]) = H9 at *
      -- for other in some[k:]
      refine ⟨_, rfl, _, rfl, _, rfl, D', vs', rfl, SqL.of (B9 _ _ hv1 nD1 nD2), fun u hu => ?_⟩
      rw [cut_drop]
      have su := same_mk (o := .lst (vs'.drop m)) hu
      have nu := S9.ne_new hu
      refine ⟨u, rfl, ⟨_, SqL.of upd_same⟩, for_it (walk_list (K := K) (a := u) (xs := vs'.drop m)) (fun i σ H' => But st l H7 H' ∧ H' u = some (.lst (vs'.drop m)) ∧ ∃ y9 y10 y11 y12 c', σ = [some (.ref a), some (.ref st), y2, some (.ref p), some (.str (bg f)), y5, some (.ref D'), some one, some (.int (m : Int)), y9, y10, y11, y12] ∧ Strm H' st l c' ∧ c' ≤ c8 + 6 * i)
        ⟨B9.trans (But.same su), upd_same, _, _, _, _, c8, rfl, S9.up su, by omega⟩ (fun i σ H' _ q => SqL.of q.2.1) ?_ ?_⟩
      · rintro i x _ _ H10 hi ⟨B10, hu10, y9, y10, y11, y12, c10, rfl, S10, hc10⟩ ⟨rfl, hx⟩
        have hx' : vs'[m + i]? = some x := by rw [← hx, List.getElem?_drop]
        have him : m + i < ss'.length := by
          have := (List.getElem?_eq_some_iff.mp hx').1
          omega
        have hso : ss'[m + i]? = some ss'[m + i] := List.getElem?_eq_getElem him
        obtain ⟨so, eso⟩ : ∃ so, ss'[m + i] = so := ⟨_, rfl⟩
        have homem : so ∈ ss' := by rw [← eso]; exact List.getElem_mem him
        rw [eso] at hso
        have S2' := hv3 (m + i) x so hx' hso
        obtain ⟨ok2, sz2, on2, sh2⟩ := hco so homem
        have at1 : ∀ {H'}, But st l H7 H' → SiAt H' one sm := fun {H'} B => S1'.upT fun b xs hb => B _ _ hb (S7.tup_ne hb).1 (S7.tup_ne hb).2
        have at2 : ∀ {H'}, But st l H7 H' → SiAt H' x so := fun {H'} B => S2'.upT fun b xs hb => B _ _ hb (S7.tup_ne hb).1 (S7.tup_ne hb).2
        -- due = not fits([one, other], [], [])
        refine ⟨fun σ H' => ∃ due, σ = [some (.ref a), some (.ref st), y2, some (.ref p), some (.str (bg f)), y5, some (.ref D'), some one, some (.int (m : Int)), some x, some (.bl due), y11, y12] ∧ due = barsM sm so ∧ Same H10 H', ?_, ?_⟩
        · refine ⟨_, rfl, _, rfl, by show 2 ≤ sizeLine; decide, fun a1 ha1 => ⟨Nat.zero_le _, fun a2 ha2 => ⟨Nat.zero_le _, fun a3 ha3 => ?_⟩⟩⟩
          have s1 := same_mk (o := .lst [one, x]) ha1
          have s2 := same_mk (o := .lst []) ha2
          have s3 := same_mk (o := .lst []) ha3
          have s13 := s1.trans (s2.trans s3)
          refine ⟨a1, a2, a3, [sm, so], [], [], rfl, ⟨[one, x], (s2.trans s3) _ _ upd_same, rfl, fun q v y hv hy => ?_⟩, fun y hy => ?_, by show 2 ≤ 20; decide, s3 _ _ upd_same, by simp, by show 0 ≤ 100; decide, upd_same, by simp, by show 0 ≤ 100; decide, fun r H' sr hr => ?_⟩
          · match q, hv, hy with
            | 0, hv, hy => cases hv; cases hy; exact (at1 B10).up s13
            | 1, hv, hy => cases hv; cases hy; exact (at2 B10).up s13
          · rcases List.mem_cons.mp hy with e | e
            · rw [e]; exact ⟨ok1, sz1⟩
            · rw [List.mem_singleton.mp e]; exact ⟨ok2, sz2⟩
          · refine ⟨_, rfl, !r, rfl, ?_, s13.trans sr⟩
            have bf := bars_fits ok1.1 ok2.1
            cases hb : barsM sm so with
            | true =>
              have nf := bf.mp hb
              cases r with
              | true => exact absurd (hr.mp rfl) nf
              | false => rfl
            | false =>
              cases r with
              | true => rfl
              | false =>
                have : barsM sm so = true := bf.mpr fun g => by
                  have := hr.mpr g
                  cases this
                rw [this] at hb
                cases hb
        rintro _ H11 ⟨due, rfl, hdue, s11⟩
        have S11 := S10.up s11
        have B11 := B10.trans (But.same s11 : But st l H10 H11)
        -- a, b = listed([one])[0], listed([other])[0]
        refine ⟨fun σ H' => ∃ va vb c', σ = [some (.ref a), some (.ref st), y2, some (.ref p), some (.str (bg f)), y5, some (.ref D'), some one, some (.int (m : Int)), some x, some (.bl due), some va, some vb] ∧ SiIn H' va sm ∧ SiIn H' vb so ∧ But st l H11 H' ∧ Strm H' st l c' ∧ c' ≤ c10 + 6, ?_, ?_⟩
        · refine ⟨_, rfl, _, rfl, by show 1 ≤ sizeLine; decide, fun a1 ha1 => ?_⟩
          have s1 := same_mk (o := .lst [one]) ha1
          have n1 := S11.ne_new ha1
          refine ⟨st, l, a1, c10, [sm], rfl, S11.up s1, by omega, n1.1, n1.2, ⟨[one], upd_same, rfl, fun q v y hv hy => ?_⟩, by show 1 ≤ 100; decide, fun v xs H12 c12 hrow hxl hsk B12 S12 hc12 => ?_⟩
          · match q, hv, hy with
            | 0, hv, hy => cases hv; cases hy; exact (at1 B11).up s1
          have hc12' : c12 ≤ c10 + 2 * 1 + 1 := hc12
          match xs, hxl with
          | [va], _ =>
            refine ⟨[va], 0, va, hrow H12 (fun _ _ h _ _ => h), rfl, atI_nat (j := 0) rfl, ?_⟩
            have B12' := B11.trans ((But.same s1).trans B12)
            refine ⟨_, rfl, _, rfl, by show 1 ≤ sizeLine; decide, fun a2 ha2 => ?_⟩
            have s2 := same_mk (o := .lst [x]) ha2
            have n2 := S12.ne_new ha2
            refine ⟨st, l, a2, c12, [so], rfl, S12.up s2, by omega, n2.1, n2.2, ⟨[x], upd_same, rfl, fun q v y hv hy => ?_⟩, by show 1 ≤ 100; decide, fun v' xs' H13 c13 hrow' hxl' hsk' B13 S13 hc13 => ?_⟩
            · match q, hv, hy with
              | 0, hv, hy => cases hv; cases hy; exact (at2 B12').up s2
            have hc13' : c13 ≤ c12 + 2 * 1 + 1 := hc13
            match xs', hxl' with
            | [vb], _ =>
              refine ⟨[vb], 0, vb, hrow' H13 (fun _ _ h _ _ => h), rfl, atI_nat (j := 0) rfl, ?_⟩
              exact ⟨va, vb, rfl, va, vb, c13, rfl, hsk 0 va sm rfl rfl H13 ((But.same s2).trans B13), hsk' 0 vb so rfl rfl H13 (fun _ _ h _ _ => h), (But.same s1).trans (B12.trans ((But.same s2).trans B13)), S13, by omega⟩
        rintro _ H12 ⟨va, vb, c12, rfl, I1, I2, B12, S12, hc12⟩
        -- if bars(a, b) != due or bars(b, a) != due
        refine ⟨_, rfl, _, rfl, va, vb, sm, so, rfl, I1, I2, ok1, ok2, fun H13 s13 => ?_⟩
        refine ⟨_, rfl, rfl, _, rfl, ?_⟩
        rw [decide_eq_true (show V.bl (barsM sm so) = V.bl due by rw [hdue])]
        refine iteF ⟨_, rfl, _, rfl, vb, va, so, sm, rfl, I2.up s13, I1.up s13, ok2, ok1, fun H14 s14 => ⟨_, rfl, rfl, _, rfl, ?_⟩⟩
        rw [decide_eq_true (show V.bl (barsM so sm) = V.bl due by rw [hdue, bars_sym])]
        have B14 : But st l H11 H14 := B12.trans (But.same (s13.trans s14))
        exact iteF ⟨B11.trans B14, B14 _ _ (s11 _ _ hu10) nu.1 nu.2, _, _, _, _, c12, rfl, S12.up (s13.trans s14), by omega⟩
      · rintro _ H10 ⟨B10, hu10, y9, y10, y11, y12, c10, rfl, S10, hc10⟩
        have at1 : ∀ {H'}, But st l H7 H' → SiAt H' one sm := fun {H'} B => S1'.upT fun b xs hb => B _ _ hb (S7.tup_ne hb).1 (S7.tup_ne hb).2
        have A1 := at1 B10
        obtain ⟨k, an⟩ := sm
        obtain ⟨t, uk, va, rfl, h1, h2, h3⟩ := A1
        -- look = one[0]
        refine ⟨_, rfl, t, _, 0, _, rfl, rfl, SqT.of h1, atI_nat (j := 0) rfl, ?_⟩
        -- other = below((look, some_answer(stream, pool, look)), '', pool)
        have LP10 := LP7.but B10
        have i7 : vs'.length - m ≤ 7 := by omega
        have hc10' : c10 ≤ c8 + 6 * (vs'.length - m) := by
          have := hc10
          rw [List.length_drop] at this
          exact this
        refine ⟨_, rfl, _, rfl, _, rfl, _, rfl, st, l, p, uk, c10, zs, k, rfl, S10, by omega, LP10, znd, z0, z20, nm, h2, ok1.2.1, fun v an' H11 c11 hv hok hon B11 S11 hc11 => ⟨by show 2 ≤ sizeLine; decide, fun r hr' => ?_⟩⟩
        have nuk := S10.tup_ne h2
        have sr := same_mk (o := .tup [.ref uk, v]) hr'
        have h2r := sr _ _ (B11 _ _ h2 nuk.1 nuk.2)
        have Br : But st l H10 (upd H11 r (.tup [.ref uk, v])) := B11.trans (But.same sr)
        have Ar : SiAt (upd H11 r (.tup [.ref uk, v])) (.ref r) (k, an') := ⟨r, uk, v, rfl, upd_same, h2r, hv.up sr⟩
        refine ⟨_, rfl, .ref r, (k, an'), [], p, zh, zr, rfl, Ar, ⟨ok1.2.1, anOn_w nm hok hon⟩, hok, fun y hy => absurd hy (by simp), by decide, by rw [← ez]; exact (LP10.but Br).h, fun v2 H12 s12 A2 => ?_⟩
        obtain ⟨ok2, sz2, on2⟩ := below_ok (f := []) (m := 6) nm ok1.1.1 sh1 (by decide) hok hon (fun y hy => absurd hy (by simp)) (by decide) zm
        have B12 : But st l H10 H12 := Br.trans (But.same s12)
        have A1 := at1 (B10.trans B12)
        have e2 : belowM [] zh (k, an') = (k, (belowM [] zh (k, an')).2) := Prod.ext (belowL_nil k) rfl
        generalize (belowM [] zh (k, an')).2 = an2 at e2
        rw [e2] at A2 ok2
        -- if bars(one, other) != (one != other)
        refine ⟨_, rfl, _, rfl, _, _, (k, an), (k, an2), rfl, A1.in, A2.in, ok1, ok2, fun H13 s13 => ?_⟩
        have d1 := si_dp (K := K) (A1.up s13)
        have d2 := si_dp (K := K) (A2.up s13)
        refine ⟨_, rfl, _, rfl, _, _, d1, d2, siD_shaped ok1.2, siD_shaped ok2.2, rfl, _, rfl, ?_⟩
        rw [eqv_si ok1.2 ok2.2, bars_one, decide_eq_true rfl]
        exact iteF ⟨B10.trans (B12.trans (But.same s13)), _, _, _, _, _, _, _, _, c11, rfl, (S11.up (sr.trans s12)).up s13, by omega⟩
    · rintro _ H8 ⟨B8, y2, y5, y7, y8, y9, y10, y11, y12, c8, rfl, S8, hc8⟩
      exact ⟨_, _, _, _, _, _, _, _, _, _, _, c8, rfl, S8, by omega⟩
end
end G

set_option maxHeartbeats 0
namespace G
open PySem PySem.Spec PyProof.Rows L2

def twoB (o : Option Obj) (x y : Str) : Bool := match o with
  | some ⟨.type t, _, .seq its _, _⟩ => decide (t = "tuple") && (match its.toList with
    | [.str a _, .str b _] => decide (a = x) && decide (b = y)
    | _ => false)
  | _ => false
theorem twoB_ok {K : PySem.W.Frag} {a : Addr} {x y : Str} (h : twoB (K.lookup a) x y = true) : ∀ H, SqT K H a [.str x, .str y] := by
  intro H
  unfold twoB at h
  split at h
  · rename_i t dd its n sl ho
    obtain ⟨h1, h2⟩ := He.ba h
    split at h2
    · rename_i p tp q tq hs
      obtain ⟨h3, h4⟩ := He.ba h2
      have e1 : t = "tuple" := of_decide_eq_true h1
      have e2 : p = x := of_decide_eq_true h3
      have e3 : q = y := of_decide_eq_true h4
      refine .inr ⟨_, its, n, ho, by rw [e1], rfl, ?_, ?_⟩
      · have : its.size = 2 := by
          have := congrArg List.length hs
          simpa using this
        rw [this]
        decide
      · rw [hs, e2, e3]
        exact .cons ⟨_, rfl⟩ (.cons ⟨_, rfl⟩ .nil)
    · cases h2
  · cases h
def exB (K : PySem.W.Frag) : Bool := twoB (K.lookup (He.ga K "TREE_LOOKS")) "read" "list"
theorem exB_ok {K : PySem.W.Frag} (h : exB K = true) : ∀ H, SqT K H (He.ga K "TREE_LOOKS") [.str "read", .str "list"] := twoB_ok h
def dG (x : Str) (i : Nat) : He.DefD := ⟨(x, none), x, x, defArgs (top i), defBody (top i), defScope (top i), [], []⟩
def fnL : List He.DefD := ([dG "_law_draw" 36, dG "_law_pick" 37, dG "_law_text" 43, dG "_law_path" 41, dG "_law_fresh" 39, dG "_law_pool" 40, dG "_law_look" 44, dG "is_name" 5, dG "is_path" 6, dG "is_place" 7, dG "beginning" 8, dG "is_beneath" 9, dG "is_at_or_beneath" 10, dG "rest_in" 11, dG "is_row" 25, dG "is_entry" 30, dG "can_look" 27, dG "as_look" 26, dG "is_listing" 29, dG "can_show" 28, dG "as_sight" 31, dG "lost_by_file" 15, dG "lost_by_names" 16, dG "follows_from" 14, dG "contrary_of_entry" 20, dG "denies_some" 18, dG "contraries" 19, dG "bar_each_other" 17, dG "plain_sights" 34, dG "bars" 33] : List He.DefD) ++ ([dG "_law_mixed" 38, dG "_law_beneath" 42, dG "_law_looks" 45, dG "_law_some_answer" 46, dG "_law_must" 47, dG "_law_entries_fit" 48, dG "_law_fits" 49, dG "_law_below" 51, dG "_law_listed" 50, dG "law" 52] : List He.DefD)
def defL : List Str := (["_law_draw", "_law_pick", "_law_text", "_law_path", "_law_fresh", "_law_pool", "_law_look", "is_name", "is_path", "is_place", "beginning", "is_beneath", "is_at_or_beneath", "rest_in", "is_row", "is_entry", "can_look", "as_look", "is_listing", "can_show", "as_sight", "lost_by_file", "lost_by_names", "follows_from", "contrary_of_entry", "denies_some", "contraries", "bar_each_other", "plain_sights", "bars"] : List Str) ++ (["_law_mixed", "_law_beneath", "_law_looks", "_law_some_answer", "_law_must", "_law_entries_fit", "_law_fits", "_law_below", "_law_listed", "law"] : List Str)
def tupL : List Str := ["TREE_LOOKS"]
def gloL : List Str := defL ++ tupL
def freeL : List Str := ["int", "len", "range", "list", "tuple", "any", "all", "sorted", "isinstance", "enumerate", "zip", "str"]
def conL : List He.Fa := [.str "STROKE" "/", .str "ROOT" "", .str "LETTERS" "abcdefghijklmnopqrstuvwxyz", .int "LONGEST" 8]
def faL : List He.Fa := (gloL.map fun x => He.Fa.glo x) ++ ((freeL.map fun x => He.Fa.free x) ++ conL)
abbrev hkL : PySem.W.Hook := He.hookX 4 faL fnL [] [] exB
abbrev RL : PySem.W.OpenRow := PySem.W.OpenLaw.row PySem.Challenge.rw_trueagain_k07_sights_barred
def obL (s : PySem.W.SharedT) : hkL.α := He.obsX 4 faL fnL [] [] exB (HandSHeadRun.getT s)
theorem obL_eq (s : PySem.W.SharedT) : obL s = hkL.obs s.abs := He.obsX_eq (HandSHeadRun.getT_eq s)
def looseL : List PySem.Str := (["_law_draw", "_law_pick", "_law_text", "_law_path", "_law_fresh", "_law_pool", "_law_look", "is_name", "is_path", "is_place", "beginning", "is_beneath", "is_at_or_beneath", "rest_in", "is_row", "is_entry", "can_look", "as_look", "is_listing", "can_show", "as_sight", "lost_by_file", "lost_by_names", "follows_from", "contrary_of_entry", "denies_some", "contraries", "bar_each_other", "plain_sights", "bars"] : List PySem.Str) ++ (["_law_mixed", "_law_beneath", "_law_looks", "_law_some_answer", "_law_must", "_law_entries_fit", "_law_fits", "_law_below", "_law_listed", "AgainError", "BadSight", "TREE_LOOKS", "STROKE", "ROOT", "LETTERS", "LONGEST"] : List PySem.Str)
theorem runL (w : World) : HandSHeadRun.RunEq RL (PySem.W.view RL.prog [52]) hkL obL 20000 looseL w := by
  intro os
  kernel_rfl
theorem fun_of {K : PySem.W.Frag} {x q : Str} {st : Stmt} {f : Addr} {fd : FuncData} (F : FunD K x q (defArgs st) (defBody st) (defScope st) [] [] f fd) : Fun K x q st f fd := by
  obtain ⟨oc, od, dV, kV, doc, pm, an, cdv, ct, osl, rfl, lk, hcd, hD, hK⟩ := F.ex
  rcases hD with ⟨_, rfl⟩ | ⟨e, _⟩
  · exact ⟨⟨oc, od, kV, doc, pm, an, cdv, ct, osl, rfl, lk, hcd⟩, F.kp⟩
  · exact absurd rfl e
section
variable {P : Program} {w : World} {K : PySem.W.Frag} {h : Heap} {mg : Str → Option Value} {f : Addr}
theorem whole (X : K.In h) (G : h.Ns mainGlobals mg) (hfa : mg ("law" : Str) = some (.ref f)) (c : He.SaysX faL fnL [] [] exB w h K) :
    ∃ fd : FuncData, (∀ (s : Shared) (u : Value), BindsTo s fd ⟨[u], []⟩ [("_law_script", u)]) ∧ ∀ base : Heap, K.In base → base.Ns mainGlobals mg → FnOk P w K mg base CX0 9 f fd ["_law_script"] (spLaw K) := by
  have D := c.t.d
  have ex := exB_ok c.more
  have gl : ∀ x ∈ gloL, mg x = some (.ref (He.ga K x)) := fun x hx => He.glo_ok X G (D.facts (f := .glo x) (List.mem_append_left _ (List.mem_map.mpr ⟨x, hx, rfl⟩)))
  have fr : ∀ x ∈ freeL, mg x = none := fun x hx => He.free_ok X G (D.facts (f := .free x) (List.mem_append_right _ (List.mem_append_left _ (List.mem_map.mpr ⟨x, hx, rfl⟩))))
  have co : ∀ x ∈ conL, x.ok K = true := fun x hx => D.facts (List.mem_append_right _ (List.mem_append_right _ hx))
  have e := hfa.symm.trans (gl "law" (by decide +kernel))
  cases e
  obtain ⟨d0, U0⟩ := D.def_ 0 (d := dG "_law_draw" 36) rfl
  have F0 : Fun K "_law_draw" "_law_draw" (top 36) (He.ga K "_law_draw") d0 := fun_of U0
  have b0 : L2.Binds K d0 ["_law_stream", "_law_many"] [] := F0.binds fun _ _ _ _ _ _ us hl => match us, hl with | [_, _], _ => rfl
  have a0 : At K mg "_law_draw" (He.ga K "_law_draw") d0 ["_law_stream", "_law_many"] := ⟨gl _ (by decide +kernel), F0.kp, b0⟩
  obtain ⟨d1, U1⟩ := D.def_ 1 (d := dG "_law_pick" 37) rfl
  have F1 : Fun K "_law_pick" "_law_pick" (top 37) (He.ga K "_law_pick") d1 := fun_of U1
  have b1 : L2.Binds K d1 ["_law_stream", "_law_things"] [] := F1.binds fun _ _ _ _ _ _ us hl => match us, hl with | [_, _], _ => rfl
  have a1 : At K mg "_law_pick" (He.ga K "_law_pick") d1 ["_law_stream", "_law_things"] := ⟨gl _ (by decide +kernel), F1.kp, b1⟩
  obtain ⟨d2, U2⟩ := D.def_ 2 (d := dG "_law_text" 43) rfl
  have F2 : Fun K "_law_text" "_law_text" (top 43) (He.ga K "_law_text") d2 := fun_of U2
  have b2 : L2.Binds K d2 ["_law_stream"] [] := F2.binds fun _ _ _ _ _ _ us hl => match us, hl with | [_], _ => rfl
  have a2 : At K mg "_law_text" (He.ga K "_law_text") d2 ["_law_stream"] := ⟨gl _ (by decide +kernel), F2.kp, b2⟩
  obtain ⟨d3, U3⟩ := D.def_ 3 (d := dG "_law_path" 41) rfl
  have F3 : Fun K "_law_path" "_law_path" (top 41) (He.ga K "_law_path") d3 := fun_of U3
  have b3 : L2.Binds K d3 ["_law_stream", "_law_pool_here", "_law_most"] [] := F3.binds fun _ _ _ _ _ _ us hl => match us, hl with | [_, _, _], _ => rfl
  have a3 : At K mg "_law_path" (He.ga K "_law_path") d3 ["_law_stream", "_law_pool_here", "_law_most"] := ⟨gl _ (by decide +kernel), F3.kp, b3⟩
  obtain ⟨d4, U4⟩ := D.def_ 4 (d := dG "_law_fresh" 39) rfl
  have F4 : Fun K "_law_fresh" "_law_fresh" (top 39) (He.ga K "_law_fresh") d4 := fun_of U4
  have b4 : L2.Binds K d4 ["_law_stream", "_law_taken"] [] := F4.binds fun _ _ _ _ _ _ us hl => match us, hl with | [_, _], _ => rfl
  have a4 : At K mg "_law_fresh" (He.ga K "_law_fresh") d4 ["_law_stream", "_law_taken"] := ⟨gl _ (by decide +kernel), F4.kp, b4⟩
  obtain ⟨d5, U5⟩ := D.def_ 5 (d := dG "_law_pool" 40) rfl
  have F5 : Fun K "_law_pool" "_law_pool" (top 40) (He.ga K "_law_pool") d5 := fun_of U5
  have b5 : L2.Binds K d5 ["_law_stream", "_law_many"] [] := F5.binds fun _ _ _ _ _ _ us hl => match us, hl with | [_, _], _ => rfl
  have a5 : At K mg "_law_pool" (He.ga K "_law_pool") d5 ["_law_stream", "_law_many"] := ⟨gl _ (by decide +kernel), F5.kp, b5⟩
  obtain ⟨d6, U6⟩ := D.def_ 6 (d := dG "_law_look" 44) rfl
  have F6 : Fun K "_law_look" "_law_look" (top 44) (He.ga K "_law_look") d6 := fun_of U6
  have b6 : L2.Binds K d6 ["_law_stream", "_law_pool_here"] [] := F6.binds fun _ _ _ _ _ _ us hl => match us, hl with | [_, _], _ => rfl
  have a6 : At K mg "_law_look" (He.ga K "_law_look") d6 ["_law_stream", "_law_pool_here"] := ⟨gl _ (by decide +kernel), F6.kp, b6⟩
  obtain ⟨d7, U7⟩ := D.def_ 7 (d := dG "is_name" 5) rfl
  have F7 : Fun K "is_name" "is_name" (top 5) (He.ga K "is_name") d7 := fun_of U7
  have b7 : L2.Binds K d7 ["thing"] [] := F7.binds fun _ _ _ _ _ _ us hl => match us, hl with | [_], _ => rfl
  have a7 : At K mg "is_name" (He.ga K "is_name") d7 ["thing"] := ⟨gl _ (by decide +kernel), F7.kp, b7⟩
  obtain ⟨d8, U8⟩ := D.def_ 8 (d := dG "is_path" 6) rfl
  have F8 : Fun K "is_path" "is_path" (top 6) (He.ga K "is_path") d8 := fun_of U8
  have b8 : L2.Binds K d8 ["thing"] [] := F8.binds fun _ _ _ _ _ _ us hl => match us, hl with | [_], _ => rfl
  have a8 : At K mg "is_path" (He.ga K "is_path") d8 ["thing"] := ⟨gl _ (by decide +kernel), F8.kp, b8⟩
  obtain ⟨d9, U9⟩ := D.def_ 9 (d := dG "is_place" 7) rfl
  have F9 : Fun K "is_place" "is_place" (top 7) (He.ga K "is_place") d9 := fun_of U9
  have b9 : L2.Binds K d9 ["thing"] [] := F9.binds fun _ _ _ _ _ _ us hl => match us, hl with | [_], _ => rfl
  have a9 : At K mg "is_place" (He.ga K "is_place") d9 ["thing"] := ⟨gl _ (by decide +kernel), F9.kp, b9⟩
  obtain ⟨d10, U10⟩ := D.def_ 10 (d := dG "beginning" 8) rfl
  have F10 : Fun K "beginning" "beginning" (top 8) (He.ga K "beginning") d10 := fun_of U10
  have b10 : L2.Binds K d10 ["place"] [] := F10.binds fun _ _ _ _ _ _ us hl => match us, hl with | [_], _ => rfl
  have a10 : At K mg "beginning" (He.ga K "beginning") d10 ["place"] := ⟨gl _ (by decide +kernel), F10.kp, b10⟩
  obtain ⟨d11, U11⟩ := D.def_ 11 (d := dG "is_beneath" 9) rfl
  have F11 : Fun K "is_beneath" "is_beneath" (top 9) (He.ga K "is_beneath") d11 := fun_of U11
  have b11 : L2.Binds K d11 ["path", "place"] [] := F11.binds fun _ _ _ _ _ _ us hl => match us, hl with | [_, _], _ => rfl
  have a11 : At K mg "is_beneath" (He.ga K "is_beneath") d11 ["path", "place"] := ⟨gl _ (by decide +kernel), F11.kp, b11⟩
  obtain ⟨d12, U12⟩ := D.def_ 12 (d := dG "is_at_or_beneath" 10) rfl
  have F12 : Fun K "is_at_or_beneath" "is_at_or_beneath" (top 10) (He.ga K "is_at_or_beneath") d12 := fun_of U12
  have b12 : L2.Binds K d12 ["path", "place"] [] := F12.binds fun _ _ _ _ _ _ us hl => match us, hl with | [_, _], _ => rfl
  have a12 : At K mg "is_at_or_beneath" (He.ga K "is_at_or_beneath") d12 ["path", "place"] := ⟨gl _ (by decide +kernel), F12.kp, b12⟩
  obtain ⟨d13, U13⟩ := D.def_ 13 (d := dG "rest_in" 11) rfl
  have F13 : Fun K "rest_in" "rest_in" (top 11) (He.ga K "rest_in") d13 := fun_of U13
  have b13 : L2.Binds K d13 ["path", "place"] [] := F13.binds fun _ _ _ _ _ _ us hl => match us, hl with | [_, _], _ => rfl
  have a13 : At K mg "rest_in" (He.ga K "rest_in") d13 ["path", "place"] := ⟨gl _ (by decide +kernel), F13.kp, b13⟩
  obtain ⟨d14, U14⟩ := D.def_ 14 (d := dG "is_row" 25) rfl
  have F14 : Fun K "is_row" "is_row" (top 25) (He.ga K "is_row") d14 := fun_of U14
  have b14 : L2.Binds K d14 ["thing", "size"] [] := F14.binds fun _ _ _ _ _ _ us hl => match us, hl with | [_, _], _ => rfl
  have a14 : At K mg "is_row" (He.ga K "is_row") d14 ["thing", "size"] := ⟨gl _ (by decide +kernel), F14.kp, b14⟩
  obtain ⟨d15, U15⟩ := D.def_ 15 (d := dG "is_entry" 30) rfl
  have F15 : Fun K "is_entry" "is_entry" (top 30) (He.ga K "is_entry") d15 := fun_of U15
  have b15 : L2.Binds K d15 ["thing"] [] := F15.binds fun _ _ _ _ _ _ us hl => match us, hl with | [_], _ => rfl
  have a15 : At K mg "is_entry" (He.ga K "is_entry") d15 ["thing"] := ⟨gl _ (by decide +kernel), F15.kp, b15⟩
  obtain ⟨d16, U16⟩ := D.def_ 16 (d := dG "can_look" 27) rfl
  have F16 : Fun K "can_look" "can_look" (top 27) (He.ga K "can_look") d16 := fun_of U16
  have b16 : L2.Binds K d16 ["word", "where"] [] := F16.binds fun _ _ _ _ _ _ us hl => match us, hl with | [_, _], _ => rfl
  have a16 : At K mg "can_look" (He.ga K "can_look") d16 ["word", "where"] := ⟨gl _ (by decide +kernel), F16.kp, b16⟩
  obtain ⟨d17, U17⟩ := D.def_ 17 (d := dG "as_look" 26) rfl
  have F17 : Fun K "as_look" "as_look" (top 26) (He.ga K "as_look") d17 := fun_of U17
  have b17 : L2.Binds K d17 ["thing"] [] := F17.binds fun _ _ _ _ _ _ us hl => match us, hl with | [_], _ => rfl
  have a17 : At K mg "as_look" (He.ga K "as_look") d17 ["thing"] := ⟨gl _ (by decide +kernel), F17.kp, b17⟩
  obtain ⟨d18, U18⟩ := D.def_ 18 (d := dG "is_listing" 29) rfl
  have F18 : Fun K "is_listing" "is_listing" (top 29) (He.ga K "is_listing") d18 := fun_of U18
  have b18 : L2.Binds K d18 ["thing"] [] := F18.binds fun _ _ _ _ _ _ us hl => match us, hl with | [_], _ => rfl
  have a18 : At K mg "is_listing" (He.ga K "is_listing") d18 ["thing"] := ⟨gl _ (by decide +kernel), F18.kp, b18⟩
  obtain ⟨d19, U19⟩ := D.def_ 19 (d := dG "can_show" 28) rfl
  have F19 : Fun K "can_show" "can_show" (top 28) (He.ga K "can_show") d19 := fun_of U19
  have b19 : L2.Binds K d19 ["look", "answer"] [] := F19.binds fun _ _ _ _ _ _ us hl => match us, hl with | [_, _], _ => rfl
  have a19 : At K mg "can_show" (He.ga K "can_show") d19 ["look", "answer"] := ⟨gl _ (by decide +kernel), F19.kp, b19⟩
  obtain ⟨d20, U20⟩ := D.def_ 20 (d := dG "as_sight" 31) rfl
  have F20 : Fun K "as_sight" "as_sight" (top 31) (He.ga K "as_sight") d20 := fun_of U20
  have b20 : L2.Binds K d20 ["thing"] [] := F20.binds fun _ _ _ _ _ _ us hl => match us, hl with | [_], _ => rfl
  have a20 : At K mg "as_sight" (He.ga K "as_sight") d20 ["thing"] := ⟨gl _ (by decide +kernel), F20.kp, b20⟩
  obtain ⟨d21, U21⟩ := D.def_ 21 (d := dG "lost_by_file" 15) rfl
  have F21 : Fun K "lost_by_file" "lost_by_file" (top 15) (He.ga K "lost_by_file") d21 := fun_of U21
  have b21 : L2.Binds K d21 ["file_path", "lost"] [] := F21.binds fun _ _ _ _ _ _ us hl => match us, hl with | [_, _], _ => rfl
  have a21 : At K mg "lost_by_file" (He.ga K "lost_by_file") d21 ["file_path", "lost"] := ⟨gl _ (by decide +kernel), F21.kp, b21⟩
  obtain ⟨d22, U22⟩ := D.def_ 22 (d := dG "lost_by_names" 16) rfl
  have F22 : Fun K "lost_by_names" "lost_by_names" (top 16) (He.ga K "lost_by_names") d22 := fun_of U22
  have b22 : L2.Binds K d22 ["place", "names", "lost"] [] := F22.binds fun _ _ _ _ _ _ us hl => match us, hl with | [_, _, _], _ => rfl
  have a22 : At K mg "lost_by_names" (He.ga K "lost_by_names") d22 ["place", "names", "lost"] := ⟨gl _ (by decide +kernel), F22.kp, b22⟩
  obtain ⟨d23, U23⟩ := D.def_ 23 (d := dG "follows_from" 14) rfl
  have F23 : Fun K "follows_from" "follows_from" (top 14) (He.ga K "follows_from") d23 := fun_of U23
  have b23 : L2.Binds K d23 ["one", "other"] [] := F23.binds fun _ _ _ _ _ _ us hl => match us, hl with | [_, _], _ => rfl
  have a23 : At K mg "follows_from" (He.ga K "follows_from") d23 ["one", "other"] := ⟨gl _ (by decide +kernel), F23.kp, b23⟩
  obtain ⟨d24, U24⟩ := D.def_ 24 (d := dG "contrary_of_entry" 20) rfl
  have F24 : Fun K "contrary_of_entry" "contrary_of_entry" (top 20) (He.ga K "contrary_of_entry") d24 := fun_of U24
  have b24 : L2.Binds K d24 ["place", "entry"] [] := F24.binds fun _ _ _ _ _ _ us hl => match us, hl with | [_, _], _ => rfl
  have a24 : At K mg "contrary_of_entry" (He.ga K "contrary_of_entry") d24 ["place", "entry"] := ⟨gl _ (by decide +kernel), F24.kp, b24⟩
  obtain ⟨d25, U25⟩ := D.def_ 25 (d := dG "denies_some" 18) rfl
  have F25 : Fun K "denies_some" "denies_some" (top 18) (He.ga K "denies_some") d25 := fun_of U25
  have b25 : L2.Binds K d25 ["sight", "others"] [] := F25.binds fun _ _ _ _ _ _ us hl => match us, hl with | [_, _], _ => rfl
  have a25 : At K mg "denies_some" (He.ga K "denies_some") d25 ["sight", "others"] := ⟨gl _ (by decide +kernel), F25.kp, b25⟩
  obtain ⟨d26, U26⟩ := D.def_ 26 (d := dG "contraries" 19) rfl
  have F26 : Fun K "contraries" "contraries" (top 19) (He.ga K "contraries") d26 := fun_of U26
  have b26 : L2.Binds K d26 ["sight"] [] := F26.binds fun _ _ _ _ _ _ us hl => match us, hl with | [_], _ => rfl
  have a26 : At K mg "contraries" (He.ga K "contraries") d26 ["sight"] := ⟨gl _ (by decide +kernel), F26.kp, b26⟩
  obtain ⟨d27, U27⟩ := D.def_ 27 (d := dG "bar_each_other" 17) rfl
  have F27 : Fun K "bar_each_other" "bar_each_other" (top 17) (He.ga K "bar_each_other") d27 := fun_of U27
  have b27 : L2.Binds K d27 ["one", "other"] [] := F27.binds fun _ _ _ _ _ _ us hl => match us, hl with | [_, _], _ => rfl
  have a27 : At K mg "bar_each_other" (He.ga K "bar_each_other") d27 ["one", "other"] := ⟨gl _ (by decide +kernel), F27.kp, b27⟩
  obtain ⟨d28, U28⟩ := D.def_ 28 (d := dG "plain_sights" 34) rfl
  have F28 : Fun K "plain_sights" "plain_sights" (top 34) (He.ga K "plain_sights") d28 := fun_of U28
  have b28 : L2.Binds K d28 ["things"] [] := F28.binds fun _ _ _ _ _ _ us hl => match us, hl with | [_], _ => rfl
  have a28 : At K mg "plain_sights" (He.ga K "plain_sights") d28 ["things"] := ⟨gl _ (by decide +kernel), F28.kp, b28⟩
  obtain ⟨d29, U29⟩ := D.def_ 29 (d := dG "bars" 33) rfl
  have F29 : Fun K "bars" "bars" (top 33) (He.ga K "bars") d29 := fun_of U29
  have b29 : L2.Binds K d29 ["one", "other"] [] := F29.binds fun _ _ _ _ _ _ us hl => match us, hl with | [_, _], _ => rfl
  have a29 : At K mg "bars" (He.ga K "bars") d29 ["one", "other"] := ⟨gl _ (by decide +kernel), F29.kp, b29⟩
  obtain ⟨d30, U30⟩ := D.def_ 30 (d := dG "_law_mixed" 38) rfl
  have F30 : Fun K "_law_mixed" "_law_mixed" (top 38) (He.ga K "_law_mixed") d30 := fun_of U30
  have b30 : L2.Binds K d30 ["_law_stream", "_law_things"] [] := F30.binds fun _ _ _ _ _ _ us hl => match us, hl with | [_, _], _ => rfl
  have a30 : At K mg "_law_mixed" (He.ga K "_law_mixed") d30 ["_law_stream", "_law_things"] := ⟨gl _ (by decide +kernel), F30.kp, b30⟩
  obtain ⟨d31, U31⟩ := D.def_ 31 (d := dG "_law_beneath" 42) rfl
  have F31 : Fun K "_law_beneath" "_law_beneath" (top 42) (He.ga K "_law_beneath") d31 := fun_of U31
  have b31 : L2.Binds K d31 ["_law_path_here", "_law_other"] [] := F31.binds fun _ _ _ _ _ _ us hl => match us, hl with | [_, _], _ => rfl
  have a31 : At K mg "_law_beneath" (He.ga K "_law_beneath") d31 ["_law_path_here", "_law_other"] := ⟨gl _ (by decide +kernel), F31.kp, b31⟩
  obtain ⟨d32, U32⟩ := D.def_ 32 (d := dG "_law_looks" 45) rfl
  have F32 : Fun K "_law_looks" "_law_looks" (top 45) (He.ga K "_law_looks") d32 := fun_of U32
  have b32 : L2.Binds K d32 ["_law_stream", "_law_pool_here", "_law_many"] [] := F32.binds fun _ _ _ _ _ _ us hl => match us, hl with | [_, _, _], _ => rfl
  have a32 : At K mg "_law_looks" (He.ga K "_law_looks") d32 ["_law_stream", "_law_pool_here", "_law_many"] := ⟨gl _ (by decide +kernel), F32.kp, b32⟩
  obtain ⟨d33, U33⟩ := D.def_ 33 (d := dG "_law_some_answer" 46) rfl
  have F33 : Fun K "_law_some_answer" "_law_some_answer" (top 46) (He.ga K "_law_some_answer") d33 := fun_of U33
  have b33 : L2.Binds K d33 ["_law_stream", "_law_pool_here", "_law_look_here"] [] := F33.binds fun _ _ _ _ _ _ us hl => match us, hl with | [_, _, _], _ => rfl
  have a33 : At K mg "_law_some_answer" (He.ga K "_law_some_answer") d33 ["_law_stream", "_law_pool_here", "_law_look_here"] := ⟨gl _ (by decide +kernel), F33.kp, b33⟩
  obtain ⟨d34, U34⟩ := D.def_ 34 (d := dG "_law_must" 47) rfl
  have F34 : Fun K "_law_must" "_law_must" (top 47) (He.ga K "_law_must") d34 := fun_of U34
  have b34 : L2.Binds K d34 ["_law_sights", "_law_files", "_law_folders"] [] := F34.binds fun _ _ _ _ _ _ us hl => match us, hl with | [_, _, _], _ => rfl
  have a34 : At K mg "_law_must" (He.ga K "_law_must") d34 ["_law_sights", "_law_files", "_law_folders"] := ⟨gl _ (by decide +kernel), F34.kp, b34⟩
  obtain ⟨d35, U35⟩ := D.def_ 35 (d := dG "_law_entries_fit" 48) rfl
  have F35 : Fun K "_law_entries_fit" "_law_entries_fit" (top 48) (He.ga K "_law_entries_fit") d35 := fun_of U35
  have b35 : L2.Binds K d35 ["_law_entries", "_law_folder", "_law_texts", "_law_dirs"] [] := F35.binds fun _ _ _ _ _ _ us hl => match us, hl with | [_, _, _, _], _ => rfl
  have a35 : At K mg "_law_entries_fit" (He.ga K "_law_entries_fit") d35 ["_law_entries", "_law_folder", "_law_texts", "_law_dirs"] := ⟨gl _ (by decide +kernel), F35.kp, b35⟩
  obtain ⟨d36, U36⟩ := D.def_ 36 (d := dG "_law_fits" 49) rfl
  have F36 : Fun K "_law_fits" "_law_fits" (top 49) (He.ga K "_law_fits") d36 := fun_of U36
  have b36 : L2.Binds K d36 ["_law_sights", "_law_files", "_law_folders"] [] := F36.binds fun _ _ _ _ _ _ us hl => match us, hl with | [_, _, _], _ => rfl
  have a36 : At K mg "_law_fits" (He.ga K "_law_fits") d36 ["_law_sights", "_law_files", "_law_folders"] := ⟨gl _ (by decide +kernel), F36.kp, b36⟩
  obtain ⟨d37, U37⟩ := D.def_ 37 (d := dG "_law_below" 51) rfl
  have F37 : Fun K "_law_below" "_law_below" (top 51) (He.ga K "_law_below") d37 := fun_of U37
  have b37 : L2.Binds K d37 ["_law_sight", "_law_front", "_law_pool_here"] [] := F37.binds fun _ _ _ _ _ _ us hl => match us, hl with | [_, _, _], _ => rfl
  have a37 : At K mg "_law_below" (He.ga K "_law_below") d37 ["_law_sight", "_law_front", "_law_pool_here"] := ⟨gl _ (by decide +kernel), F37.kp, b37⟩
  obtain ⟨d38, U38⟩ := D.def_ 38 (d := dG "_law_listed" 50) rfl
  have F38 : Fun K "_law_listed" "_law_listed" (top 50) (He.ga K "_law_listed") d38 := fun_of U38
  have b38 : L2.Binds K d38 ["_law_stream", "_law_sights"] [] := F38.binds fun _ _ _ _ _ _ us hl => match us, hl with | [_, _], _ => rfl
  have a38 : At K mg "_law_listed" (He.ga K "_law_listed") d38 ["_law_stream", "_law_sights"] := ⟨gl _ (by decide +kernel), F38.kp, b38⟩
  obtain ⟨d39, U39⟩ := D.def_ 39 (d := dG "law" 52) rfl
  have F39 : Fun K "law" "law" (top 52) (He.ga K "law") d39 := fun_of U39
  have bL : ∀ (s : Shared) (u : Value), BindsTo s d39 ⟨[u], []⟩ [("_law_script", u)] := by
    obtain ⟨oc, od, kV, doc, pm, an, cdv, ct, osl, rfl, lk, hcd⟩ := F39.ex
    exact fun s u => .of_eq rfl
  refine ⟨d39, bL, fun base KB GB => ?_⟩
  have T : TB mg := ⟨fr _ (by decide +kernel), fr _ (by decide +kernel), fr _ (by decide +kernel), fr _ (by decide +kernel), fr _ (by decide +kernel), fr _ (by decide +kernel), fr _ (by decide +kernel), fr _ (by decide +kernel), fr _ (by decide +kernel), fr _ (by decide +kernel), fr _ (by decide +kernel), fr _ (by decide +kernel)⟩
  have T0 : TPk mg := ⟨T, He.str_ok X G (co _ (List.mem_cons_self ..)), He.str_ok X G (co _ (List.mem_cons_of_mem _ (List.mem_cons_self ..))), He.str_ok X G (co _ (List.mem_cons_of_mem _ (List.mem_cons_of_mem _ (List.mem_cons_self ..)))), He.int_ok X G (co _ (List.mem_cons_of_mem _ (List.mem_cons_of_mem _ (List.mem_cons_of_mem _ (List.mem_cons_self ..)))))⟩
  have mTL := gl "TREE_LOOKS" (by decide +kernel)
  have G0 : FnOk P w K mg base CX0 1 (He.ga K "_law_draw") d0 ["_law_stream", "_law_many"] spDraw := ok_draw F0 ⟨fr _ (by decide +kernel)⟩
  have G1 : FnOk P w K mg base CX0 2 (He.ga K "_law_pick") d1 ["_law_stream", "_law_things"] spPick := ok_pick F1 ⟨T.int, T.len, T.range, T.list, (a0).m, (a0).k, (a0).b⟩ G0
  have G4 : FnOk P w K mg base CX0 3 (He.ga K "_law_fresh") d4 ["_law_stream", "_law_taken"] spFresh := ok_fresh F4 T a0 a1 G0 G1
  have G5 : FnOk P w K mg base CX0 4 (He.ga K "_law_pool") d5 ["_law_stream", "_law_many"] spPool := ok_pool F5 T a4 G4
  have G3 : FnOk P w K mg base CX0 3 (He.ga K "_law_path") d3 ["_law_stream", "_law_pool_here", "_law_most"] spPath := ok_path F3 T a0 a1 G0 G1
  have G6 : FnOk P w K mg base CX0 4 (He.ga K "_law_look") d6 ["_law_stream", "_law_pool_here"] spLook := ok_look F6 T a0 a1 a3 G0 G1 G3
  have G32 : FnOk P w K mg base CX0 5 (He.ga K "_law_looks") d32 ["_law_stream", "_law_pool_here", "_law_many"] spLooks := ok_looks F32 T a6 G6
  have G30 : FnOk P w K mg base CX0 2 (He.ga K "_law_mixed") d30 ["_law_stream", "_law_things"] spMixed := ok_mixed F30 T a0 G0
  have G2 : FnOk P w K mg base CX0 2 (He.ga K "_law_text") d2 ["_law_stream"] spText := ok_text F2 a0 G0
  have G33 : FnOk P w K mg base CX0 3 (He.ga K "_law_some_answer") d33 ["_law_stream", "_law_pool_here", "_law_look_here"] spSome := ok_some F33 T a0 a30 a2 G0 G30 G2
  have G37 : FnOk P w K mg base CX0 1 (He.ga K "_law_below") d37 ["_law_sight", "_law_front", "_law_pool_here"] spBelow := ok_below F37
  have G38 : FnOk P w K mg base CX0 2 (He.ga K "_law_listed") d38 ["_law_stream", "_law_sights"] spListed := ok_listed F38 T a0 G0
  have G34 : FnOk P w K mg base CX0 1 (He.ga K "_law_must") d34 ["_law_sights", "_law_files", "_law_folders"] spMust := ok_must F34 T
  have G31 : FnOk P w K mg base CX0 1 (He.ga K "_law_beneath") d31 ["_law_path_here", "_law_other"] spBeneath := ok_beneath F31 T
  have G35 : FnOk P w K mg base CX0 2 (He.ga K "_law_entries_fit") d35 ["_law_entries", "_law_folder", "_law_texts", "_law_dirs"] spEntries := ok_entries F35 T a31 G31
  have G36 : FnOk P w K mg base CX0 3 (He.ga K "_law_fits") d36 ["_law_sights", "_law_files", "_law_folders"] spFits := ok_fits F36 T a34 a35 G34 G35
  have G14 : FnOk P w K mg base CX0 1 (He.ga K "is_row") d14 ["thing", "size"] spRow := ok_row F14 T
  have G7 : FnOk P w K mg base CX0 1 (He.ga K "is_name") d7 ["thing"] spIsName := ok_isName F7 T0
  have G8 : FnOk P w K mg base CX0 2 (He.ga K "is_path") d8 ["thing"] spIsPath := ok_isPath F8 T0 a7 G7
  have G9 : FnOk P w K mg base CX0 3 (He.ga K "is_place") d9 ["thing"] spIsPlace := ok_isPlace F9 T0 a8 G8
  have G16 : FnOk P w K mg base CX0 4 (He.ga K "can_look") d16 ["word", "where"] spCanLook := ok_canLook F16 T0 a7 a8 a9 G7 G8 G9
  have G17 : FnOk P w K mg base CX0 5 (He.ga K "as_look") d17 ["thing"] spAsLook := ok_asLook F17 T a14 a16 G14 G16
  have G15 : FnOk P w K mg base CX0 2 (He.ga K "is_entry") d15 ["thing"] spIsEntry := ok_isEntry F15 T0 a7 G7
  have G18 : FnOk P w K mg base CX0 3 (He.ga K "is_listing") d18 ["thing"] spIsListing := ok_isListing F18 T0 a15 G15
  have G19 : FnOk P w K mg base CX0 4 (He.ga K "can_show") d19 ["look", "answer"] spCanShow := ok_canShow F19 T0 a18 G18
  have G20 : FnOk P w K mg base CX0 6 (He.ga K "as_sight") d20 ["thing"] spAsSight := ok_asSight F20 T a14 a17 a19 G14 G17 G19
  have G28 : FnOk P w K mg base CX0 7 (He.ga K "plain_sights") d28 ["things"] spPlain := ok_plain F28 T a20 G20
  have G10 : FnOk P w K mg base CX0 1 (He.ga K "beginning") d10 ["place"] spBeg := ok_beg F10 T0
  have G11 : FnOk P w K mg base CX0 2 (He.ga K "is_beneath") d11 ["path", "place"] spBen := ok_ben F11 a10 G10
  have G12 : FnOk P w K mg base CX0 3 (He.ga K "is_at_or_beneath") d12 ["path", "place"] spAt := ok_at F12 a11 G11
  have G21 : FnOk P w K mg base CX0 4 (He.ga K "lost_by_file") d21 ["file_path", "lost"] spLostF := ok_lostF F21 a12 a11 G12 G11
  have G13 : FnOk P w K mg base CX0 2 (He.ga K "rest_in") d13 ["path", "place"] spRest := ok_rest F13 T0 a10 G10
  have G22 : FnOk P w K mg base CX0 4 (He.ga K "lost_by_names") d22 ["place", "names", "lost"] spLostN := ok_lostN F22 T0 a12 a11 a13 G12 G11 G13
  have G23 : FnOk P w K mg base CX0 5 (He.ga K "follows_from") d23 ["one", "other"] spFollows := ok_follows F23 mTL ex a21 a22 a11 G21 G22 G11
  have G25 : FnOk P w K mg base CX0 6 (He.ga K "denies_some") d25 ["sight", "others"] spDenies := ok_denies F25 T a23 G23
  have G24 : FnOk P w K mg base CX0 2 (He.ga K "contrary_of_entry") d24 ["place", "entry"] spContrE := ok_contrE F24 T0 a10 G10
  have G26 : FnOk P w K mg base CX0 3 (He.ga K "contraries") d26 ["sight"] spContr := ok_contr F26 mTL ex a24 G24
  have G27 : FnOk P w K mg base CX0 7 (He.ga K "bar_each_other") d27 ["one", "other"] spBarE := ok_barE F27 a25 a26 G25 G26
  have G29 : FnOk P w K mg base CX0 8 (He.ga K "bars") d29 ["one", "other"] spBars := ok_bars F29 a28 a27 G28 G27
  exact ok_law F39 T a0 G0 a5 G5 a3 G3 a32 G32 a33 G33 a37 G37 a38 G38 a36 G36 a29 G29
end
end G

set_option maxHeartbeats 0
open PySem PySem.W PySem.Calls PyProof.Rows
theorem PySem.Challenge.cw_trueagain_k07_sights_barred_holds : PySem.Challenge.rw_trueagain_k07_sights_barred.Holds := by
  w_on; o_law
  refine HandSHeadRun.head_any (r := G.RL) (q := view G.RL.prog [52]) (H := G.hkL) (ob := G.obL) (M := 20000) (loose := G.looseL) (d := HandSHeadRun.topDef G.RL.prog 52) (kwd := []) G.obL_eq
    (by kernel_rfl) (fun s => by kernel_rfl) G.runL (by kernel_rfl) (by kernel_rfl) (by kernel_rfl) (by rfl) (by first | assumption | decide +kernel) (by decide +kernel) ⟨rfl, rfl, rfl, rfl, rfl, by decide +kernel⟩ ?hw ?hc
  case hw => w_witness2
  case hc =>
    refine L2.walk_ofE (l := PySem.Challenge.rw_trueagain_k07_sights_barred) (n := 63) (k := 9) (x := "_law_script") (CX := L2.CX0) rfl (by decide) (by kernel_rfl) ⟨rfl, by decide, by decide⟩ ?F (fun _ _ _ _ z => z)
    intro w mg fa h Y GG hmg0
    obtain ⟨K, KX, c⟩ := Y
    have hmg : mg ("law" : PySem.Str) = some (.ref fa) := by
      have e : (HandSHeadRun.topDef G.RL.prog 52).name = ("law" : PySem.Str) := by kernel_rfl
      rw [← e]
      exact hmg0
    obtain ⟨fd, hb, hF⟩ := G.whole (P := PySem.Challenge.rw_trueagain_k07_sights_barred.prog) (w := w) KX GG hmg c
    exact ⟨K, fd, G.spLaw K, KX, hb, fun H a ns hl _ hS => ⟨a, ns, rfl, hl, hS, fun _ => rfl⟩, hF⟩
