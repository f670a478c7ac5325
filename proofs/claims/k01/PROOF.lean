import PyProof.Rows.All
import Wide.All
import OpenK.AllK
import Wide.FinOn
import HandS.ForMost
import HandS.CallLocal
import HandS.ClsMeth
import HandS.Deep
import HandS.DictComp
import HandS.Exc
import HandS.ExcField
import HandS.ExcInit
import HandS.ExcIs
import HandS.ExcValue
import HandS.Flow
import HandS.IsInst
import HandS.Lambda
import HandS.MethStar
import HandS.More
import HandS.Property
import HandS.RaiseMore
import HandS.Star
import HandS.StrMore
import HandS.Style
import HandS.Text
import HandS.TryMany
import HandS.TryOnly
import HandS.TupAny
import HandS.Walk
import HandS.Wide
import HandS.WordsExc
import KE.KDictList
import KE.KExcInit
import KE.KExcLine
import KE.KFmtOwn
import KE.KStrOpen
import KE.KTryMore
import PyProof.Ascii
import PyProof.EqAt
import PyProof.ExcClass
import PyProof.FitsInt
import PyProof.InstStoreFacts
import PyProof.ReprRoads
import PySem.Challenge.RW_fallsback_k01_whole_errors_of_the_packag
set_option Elab.async false
set_option maxRecDepth 100000
set_option maxHeartbeats 4400000
/-! Den: what a piece of the text denotes as a plain Lean function over data. -/
namespace Den
open PySem PySem.Spec PyProof.Rows L2

/-! ### data -/
inductive D where
  | non | bl (b : Bool) | int (i : Int) | str (s : Str) | ty (n : String) | fn (a : Addr)
  | lst (xs : List D) | tup (xs : List D) | scr (xs : List D) | dct (ks : List L2.Key) (xs : List D) | loc (n : Nat) | ins (C : Addr) (ks : List Str) (xs : List D) | exn (C : Addr) (ks : List Str) (xs : List D)
/-- the lists that may still change; none: one that is now data -/
abbrev Mem := List (Option (List D))
abbrev Ro := List (Option D)
abbrev Kf := PySem.W.Frag

mutual
inductive Rep (K : Kf) (μ : List Addr) (H : Hp) : V → D → Prop
  | non : Rep K μ H .non .non
  | bl (b : Bool) : Rep K μ H (.bl b) (.bl b)
  | int (i : Int) : Rep K μ H (.int i) (.int i)
  | str (x : Str) : Rep K μ H (.str x) (.str x)
  | ty (n : String) : Rep K μ H (.ty n) (.ty n)
  | fn (a : Addr) : Rep K μ H (.ref a) (.fn a)
  | lst {a : Addr} {vs : List V} {ds : List D} : H a = some (.lst vs) → RepAll K μ H vs ds → Rep K μ H (.ref a) (.lst ds)
  | scr {a : Addr} {vs : List V} {ds : List D} : SqL K H a vs → RepAll K μ H vs ds → Rep K μ H (.ref a) (.scr ds)
  | dct {a : Addr} {kvs : List (L2.Key × V)} {ks : List L2.Key} {ds : List D} : H a = some (.dK kvs) → kvs.map Prod.fst = ks → RepAll K μ H (kvs.map Prod.snd) ds → Rep K μ H (.ref a) (.dct ks ds)
  | tup {a : Addr} {vs : List V} {ds : List D} : SqT K H a vs → RepAll K μ H vs ds → Rep K μ H (.ref a) (.tup ds)
  | loc {a : Addr} {n : Nat} : μ[n]? = some a → Rep K μ H (.ref a) (.loc n)
  | ins {a C dx : Addr} {fv : List (Str × V)} {ks : List Str} {ds : List D} : H a = some (.ins C dx fv) → fv.map Prod.fst = ks → RepAll K μ H (fv.map Prod.snd) ds → Rep K μ H (.ref a) (.ins C ks ds)
  | exn0 {a C : Addr} : H a = some (ExO (.ref C) a) → Rep K μ H (.ref a) (.exn C [] [])
  | exn1 {a C dx : Addr} {fv : List (Str × V)} {ks : List Str} {ds : List D} : H a = some (exo a C (some dx)) → H dx = some (exd dx fv) → fv.map Prod.fst = ks → RepAll K μ H (fv.map Prod.snd) ds → Rep K μ H (.ref a) (.exn C ks ds)
inductive RepAll (K : Kf) (μ : List Addr) (H : Hp) : List V → List D → Prop
  | nil : RepAll K μ H [] []
  | cons {v : V} {vs : List V} {d : D} {ds : List D} : Rep K μ H v d → RepAll K μ H vs ds → RepAll K μ H (v :: vs) (d :: ds)
end

theorem same_rd {H H' : Hp} {a : Addr} {u : HO} (e : Same H H') (h : Rd H a u) : Rd H' a u :=
  h.elim (fun q => .inl (e _ _ q)) fun ⟨o, q⟩ => .inr ⟨o, e _ _ q⟩
theorem same_l {K : Kf} {H H' : Hp} {a : Addr} {xs : List V} (e : Same H H') (h : SqL K H a xs) : SqL K H' a xs :=
  h.elim (fun q => .inl (same_rd e q)) fun q => .inr q
theorem same_t {K : Kf} {H H' : Hp} {a : Addr} {xs : List V} (e : Same H H') (h : SqT K H a xs) : SqT K H' a xs :=
  h.elim (fun q => .inl (same_rd e q)) fun q => .inr q
theorem pre_at {μ μ' : List Addr} (m : μ <+: μ') {n : Nat} {a : Addr} (h : μ[n]? = some a) : μ'[n]? = some a := by
  obtain ⟨t, rfl⟩ := m
  have hn := (List.getElem?_eq_some_iff.mp h).1
  rw [List.getElem?_append_left hn]
  exact h

mutual
theorem Rep.mono {K : Kf} {μ μ' : List Addr} {H H' : Hp} (e : Same H H') (m : μ <+: μ') : ∀ (d : D) (v : V), Rep K μ H v d → Rep K μ' H' v d
  | .non, _, h => by cases h; exact .non
  | .bl _, _, h => by cases h; exact .bl _
  | .int _, _, h => by cases h; exact .int _
  | .str _, _, h => by cases h; exact .str _
  | .ty _, _, h => by cases h; exact .ty _
  | .fn _, _, h => by cases h; exact .fn _
  | .lst ds, _, h => by
    cases h with
    | lst s r => exact .lst (e _ _ s) (RepAll.mono e m ds _ r)
  | .scr ds, _, h => by
    cases h with
    | scr s r => exact .scr (same_l e s) (RepAll.mono e m ds _ r)
  | .dct ks ds, _, h => by
    cases h with
    | dct s k r => exact .dct (e _ _ s) k (RepAll.mono e m ds _ r)
  | .tup ds, _, h => by
    cases h with
    | tup s r => exact .tup (same_t e s) (RepAll.mono e m ds _ r)
  | .loc n, _, h => by
    cases h with
    | loc q => exact .loc (pre_at m q)
  | .ins C ks ds, _, h => by
    cases h with
    | ins s k r => exact .ins (e _ _ s) k (RepAll.mono e m ds _ r)
  | .exn C ks ds, _, h => by
    cases h with
    | exn0 s => exact .exn0 (e _ _ s)
    | exn1 s t k r => exact .exn1 (e _ _ s) (e _ _ t) k (RepAll.mono e m ds _ r)
theorem RepAll.mono {K : Kf} {μ μ' : List Addr} {H H' : Hp} (e : Same H H') (m : μ <+: μ') : ∀ (ds : List D) (vs : List V), RepAll K μ H vs ds → RepAll K μ' H' vs ds
  | [], _, h => by cases h; exact .nil
  | d :: ds, _, h => by
    cases h with
    | cons r t => exact .cons (Rep.mono e m d _ r) (RepAll.mono e m ds _ t)
end
section
variable {K : Kf} {μ : List Addr} {H : Hp}
theorem RepAll.length : ∀ {vs : List V} {ds : List D}, RepAll K μ H vs ds → vs.length = ds.length
  | _, _, .nil => rfl
  | _, _, .cons _ t => congrArg Nat.succ t.length
theorem RepAll.at : ∀ {vs : List V} {ds : List D} {i : Nat} {d : D}, RepAll K μ H vs ds → ds[i]? = some d → ∃ v, vs[i]? = some v ∧ Rep K μ H v d
  | _, _, _, _, .nil, e => by simp at e
  | _, _, 0, _, .cons r _, e => ⟨_, rfl, by simp at e; subst e; exact r⟩
  | _, _, i + 1, _, .cons _ t, e => by
    obtain ⟨v, h1, h2⟩ := RepAll.at (i := i) t (by simpa using e)
    exact ⟨v, by simpa using h1, h2⟩
theorem RepAll.atV : ∀ {vs : List V} {ds : List D} {i : Nat} {v : V}, RepAll K μ H vs ds → vs[i]? = some v → ∃ d, ds[i]? = some d ∧ Rep K μ H v d
  | _, _, _, _, .nil, e => by simp at e
  | _, _, 0, _, .cons r _, e => ⟨_, rfl, by simp at e; subst e; exact r⟩
  | _, _, i + 1, _, .cons _ t, e => by
    obtain ⟨v, h1, h2⟩ := RepAll.atV (i := i) t (by simpa using e)
    exact ⟨v, by simpa using h1, h2⟩
theorem RepAll.app : ∀ {vs ws : List V} {ds es : List D}, RepAll K μ H vs ds → RepAll K μ H ws es → RepAll K μ H (vs ++ ws) (ds ++ es)
  | _, _, _, _, .nil, s => s
  | _, _, _, _, .cons r t, s => .cons r (t.app s)
theorem RepAll.take : ∀ {vs : List V} {ds : List D} (n : Nat), RepAll K μ H vs ds → RepAll K μ H (vs.take n) (ds.take n)
  | _, _, 0, _ => .nil
  | _, _, _ + 1, .nil => .nil
  | _, _, n + 1, .cons r t => .cons r (t.take n)
theorem RepAll.drop : ∀ {vs : List V} {ds : List D} (n : Nat), RepAll K μ H vs ds → RepAll K μ H (vs.drop n) (ds.drop n)
  | _, _, 0, r => r
  | _, _, _ + 1, .nil => .nil
  | _, _, n + 1, .cons _ t => t.drop n
theorem RepAll.set : ∀ {vs : List V} {ds : List D} {v : V} {d : D} (i : Nat), RepAll K μ H vs ds → Rep K μ H v d → RepAll K μ H (vs.set i v) (ds.set i d)
  | _, _, _, _, _, .nil, _ => .nil
  | _, _, _, _, 0, .cons _ t, q => .cons q t
  | _, _, _, _, i + 1, .cons r t, q => .cons r (t.set i q)
theorem RepAll.erase : ∀ {vs : List V} {ds : List D} (i : Nat), RepAll K μ H vs ds → RepAll K μ H (vs.eraseIdx i) (ds.eraseIdx i)
  | _, _, _, .nil => .nil
  | _, _, 0, .cons _ t => t
  | _, _, i + 1, .cons r t => .cons r (t.erase i)
theorem RepAll.rev {vs : List V} {ds : List D} (h : RepAll K μ H vs ds) : RepAll K μ H vs.reverse ds.reverse := by
  induction vs generalizing ds with
  | nil => cases h; exact .nil
  | cons v vs ih =>
    cases h with
    | cons r t =>
      rw [List.reverse_cons, List.reverse_cons]
      exact (ih t).app (.cons r .nil)
theorem RepAll.ints : ∀ {vs : List V} {ns : List Int}, RepAll K μ H vs (ns.map D.int) → vs = ns.map V.int
  | _, [], h => by cases h; rfl
  | _, n :: ns, h => by
    cases h with
    | cons r t => cases r; rw [List.map_cons, ← RepAll.ints t]
theorem RepAll.strs : ∀ {vs : List V} {ns : List Str}, RepAll K μ H vs (ns.map D.str) → vs = ns.map V.str
  | _, [], h => by cases h; rfl
  | _, n :: ns, h => by
    cases h with
    | cons r t => cases r; rw [List.map_cons, ← RepAll.strs t]
theorem RepAll.bls : ∀ {vs : List V} {ns : List Bool}, RepAll K μ H vs (ns.map D.bl) → vs = ns.map V.bl
  | _, [], h => by cases h; rfl
  | _, n :: ns, h => by
    cases h with
    | cons r t => cases r; rw [List.map_cons, ← RepAll.bls t]
end

/-! ### tables of code objects: the defs that make lambdas -/
def lamNames : List Str := ["_law_rows_right", "law", "_law_edited", "_law_items_right", "_law_edits_right", "_law_acts_right"]
def lamT (K : Kf) : List (Addr × Str) := lamNames.filterMap fun x => (PySem.W.tabIn K x).map fun p => (p.2, (x ++ ".<locals>.") ++ "<lambda>")
/-- no table, no thing that is known by a word of its own -/
@[simp] def plainO : HO → Bool
  | .tbl _ => false
  | .ext _ => false
  | _ => true
/-- no table -/
@[simp] def noTbl : HO → Bool
  | .tbl _ => false
  | _ => true
theorem noTbl_of {o : HO} (h : plainO o = true) : noTbl o = true := by cases o <;> first | rfl | cases h
def NoTbl (H : Hp) : Prop := ∀ b o, H b = some o → noTbl o = true
theorem NoTbl.upd {H : Hp} {a : Addr} {o : HO} (h : NoTbl H) (ho : noTbl o = true) : NoTbl (L2.upd H a o) := fun b u e => by
  by_cases hb : b = a
  · subst hb; rw [upd_same] at e; cases e; exact ho
  · rw [upd_ne hb] at e; exact h b u e
def Plain (H : Hp) : Prop := ∀ b o, H b = some o → plainO o = true
theorem Plain.upd {H : Hp} {a : Addr} {o : HO} (h : Plain H) (ho : plainO o = true) : Plain (L2.upd H a o) := fun b u e => by
  by_cases hb : b = a
  · subst hb; rw [upd_same] at e; cases e; exact ho
  · rw [upd_ne hb] at e; exact h b u e
theorem Plain.other {H : Hp} {a : Addr} {o o' : HO} (h : Plain (L2.upd H a o)) (ho : plainO o' = true) : Plain (L2.upd H a o') := fun b u e => by
  by_cases hb : b = a
  · subst hb; rw [upd_same] at e; cases e; exact ho
  · rw [upd_ne hb] at e; exact h b u (by rw [upd_ne hb]; exact e)
theorem Plain.less {H : Hp} {a : Addr} {o : HO} (h : Plain (L2.upd H a o)) (ha : H a = none) : Plain H := fun b u e => h b u (by rw [upd_ne (ne_of_none e ha)]; exact e)
theorem tabs_new {T : List (Addr × Str)} {H : Hp} {a : Addr} {o : HO} (t : LamX.Tabs T H) (h : H a = none) : LamX.Tabs T (L2.upd H a o) := t.ext fun b u e => by rw [upd_ne (ne_of_none e h)]; exact e
theorem tabs_turn {T : List (Addr × Str)} {H : Hp} {a : Addr} {o o' : HO} (t : LamX.Tabs T H) (h : H a = some o) (ho : plainO o = true) : LamX.Tabs T (L2.upd H a o') := fun p hp => by
  obtain ⟨ps, h1, h2, h3⟩ := t p hp
  have n1 : p.1 ≠ a := fun z => by rw [z, h] at h1; cases h1; cases ho
  refine ⟨ps, by rw [upd_ne n1]; exact h1, h2, fun pos cv hc => ?_⟩
  obtain ⟨c, e1, e2⟩ := h3 pos cv hc
  have n2 : c ≠ a := fun z => by
    rw [z, h] at e2
    rw [Option.some.inj e2] at ho
    unfold LamX.CodeO at ho
    cases ho
  exact ⟨c, e1, by rw [upd_ne n2]; exact e2⟩

/-! ### states -/
structure SR (K : Kf) (μ : List Addr) (Hf Fr H : Hp) (M : Mem) : Prop where
  ex : Same Hf H
  fr : Same Fr H
  dis : ∀ a o, Fr a = some o → Hf a = none
  len : μ.length = M.length
  nd : μ.Nodup
  cell : ∀ (n : Nat) (ds : List D), M[n]? = some (some ds) → ∃ a vs, μ[n]? = some a ∧ Hf a = none ∧ Fr a = none ∧ H a = some (.lst vs) ∧ RepAll K μ Hf vs ds
  old : ∀ a, a ∈ μ → ∃ o, H a = some (.lst o)
  tb : LamX.Tabs (lamT K) H
  px : NoTbl Hf
  pr : Plain Fr
  of : ∀ a, a ∈ μ → Fr a = none
structure ERep (K : Kf) (μ : List Addr) (H : Hp) (σ : L2.St) (ρ : Ro) : Prop where
  len : σ.length = ρ.length
  slot : ∀ (i : Nat) (d : D), ρ[i]? = some (some d) → ∃ v, σ[i]? = some (some v) ∧ Rep K μ H v d
section
variable {K : Kf} {μ μ' : List Addr} {H H' Hf Hf' Fr : Hp} {σ : L2.St} {ρ : Ro} {M : Mem}
theorem ERep.mono (r : ERep K μ H σ ρ) (e : Same H H') (m : μ <+: μ') : ERep K μ' H' σ ρ :=
  ⟨r.len, fun i d q => let ⟨v, h1, h2⟩ := r.slot i d q; ⟨v, h1, h2.mono e m⟩⟩
theorem ERep.put (r : ERep K μ H σ ρ) {v : V} {d : D} (i : Nat) (q : Rep K μ H v d) : ERep K μ H (σ.set i (some v)) (ρ.set i (some d)) := by
  refine ⟨by rw [List.length_set, List.length_set]; exact r.len, fun j d' e => ?_⟩
  by_cases hj : i = j
  · subst hj
    have hi : i < ρ.length := by
      have := (List.getElem?_eq_some_iff.mp e).1
      rwa [List.length_set] at this
    rw [List.getElem?_set_self hi] at e
    cases e
    exact ⟨v, by rw [List.getElem?_set_self (by rw [r.len]; exact hi)], q⟩
  · rw [List.getElem?_set_ne hj] at e
    obtain ⟨w, h1, h2⟩ := r.slot j d' e
    exact ⟨w, by rw [List.getElem?_set_ne hj]; exact h1, h2⟩
def wipeD (ρ : Ro) : List Nat → Ro
  | [] => ρ
  | v :: vs => (wipeD ρ vs).set v none
theorem ERep.wipe (r : ERep K μ H σ ρ) : ∀ vs : List Nat, ERep K μ H (L2.wipe σ vs) (wipeD ρ vs)
  | [] => r
  | v :: vs => by
    have ih := r.wipe vs
    refine ⟨by show ((L2.wipe σ vs).set v none).length = ((wipeD ρ vs).set v none).length; rw [List.length_set, List.length_set]; exact ih.len, fun j d' e => ?_⟩
    have e : ((wipeD ρ vs).set v none)[j]? = some (some d') := e
    by_cases hj : v = j
    · subst hj
      by_cases hv : v < (wipeD ρ vs).length
      · rw [List.getElem?_set_self hv] at e; cases e
      · rw [List.getElem?_eq_none (by rw [List.length_set]; omega)] at e; cases e
    · rw [List.getElem?_set_ne hj] at e
      obtain ⟨w, h1, h2⟩ := ih.slot j d' e
      refine ⟨w, ?_, h2⟩
      show ((L2.wipe σ vs).set v none)[j]? = _
      rw [List.getElem?_set_ne hj]; exact h1
/-- a new object that becomes data -/
theorem SR.froz {p : Addr} {o : HO} (s : SR K μ Hf Fr H M) (hp : H p = none) (ho : noTbl o = true := by rfl) : SR K μ (upd Hf p o) Fr (upd H p o) M ∧ Same Hf (upd Hf p o) := by
  have hf : Hf p = none := s.ex.free hp
  have hr : Fr p = none := s.fr.free hp
  have hs : Same Hf (upd Hf p o) := fun b u e => by rw [upd_ne (ne_of_none e hf)]; exact e
  refine ⟨⟨fun b u e => ?_, fun b u e => ?_, fun b u e => ?_, s.len, s.nd, fun n ds e => ?_, fun b hb => ?_, tabs_new s.tb hp, s.px.upd ho, s.pr, s.of⟩, hs⟩
  · by_cases hb : b = p
    · subst hb; rw [upd_same] at e ⊢; exact e
    · rw [upd_ne hb] at e ⊢; exact s.ex b u e
  · rw [upd_ne (ne_of_none e hr)]; exact s.fr b u e
  · rw [upd_ne (ne_of_none e hr)]; exact s.dis b u e
  · obtain ⟨a, vs, h1, h2, h3, h4, h5⟩ := s.cell n ds e
    have ha : a ≠ p := ne_of_none h4 hp
    exact ⟨a, vs, h1, by rw [upd_ne ha]; exact h2, h3, by rw [upd_ne ha]; exact h4, h5.mono hs (List.prefix_refl _)⟩
  · obtain ⟨u, q⟩ := s.old b hb
    exact ⟨u, by rw [upd_ne (ne_of_none q hp)]; exact q⟩
/-- a new list that may still change -/
theorem SR.grow {p : Addr} {vs : List V} {ds : List D} (s : SR K μ Hf Fr H M) (hp : H p = none) (r : RepAll K μ Hf vs ds) :
    SR K (μ ++ [p]) Hf Fr (upd H p (.lst vs)) (M ++ [some ds]) ∧ (μ ++ [p])[M.length]? = some p := by
  have hf : Hf p = none := s.ex.free hp
  have hr : Fr p = none := s.fr.free hp
  have hm : μ <+: μ ++ [p] := List.prefix_append _ _
  have hat : (μ ++ [p])[M.length]? = some p := by rw [← s.len]; simp
  have hnp : p ∉ μ := fun q => by
    obtain ⟨u, e⟩ := s.old p q
    rw [hp] at e; cases e
  refine ⟨⟨fun b u e => ?_, fun b u e => ?_, s.dis, by simp [s.len], ?_, fun n es e => ?_, fun b hb => ?_, tabs_new s.tb hp, s.px, s.pr, fun b hb => (List.mem_append.mp hb).elim (s.of b) fun z => by rw [List.mem_singleton.mp z]; exact hr⟩, hat⟩
  · rw [upd_ne (ne_of_none e hf)]; exact s.ex b u e
  · rw [upd_ne (ne_of_none e hr)]; exact s.fr b u e
  · rw [List.nodup_append]
    exact ⟨s.nd, by simp, fun a ha b hb => by
      have : b = p := by simpa using hb
      subst this
      exact fun z => hnp (z ▸ ha)⟩
  · by_cases hn : n < M.length
    · rw [List.getElem?_append_left hn] at e
      obtain ⟨a, ws, h1, h2, h3, h4, h5⟩ := s.cell n es e
      exact ⟨a, ws, pre_at hm h1, h2, h3, by rw [upd_ne (ne_of_none h4 hp)]; exact h4, h5.mono (Same.refl _) hm⟩
    · have hn' : n = M.length := by
        have := (List.getElem?_eq_some_iff.mp e).1
        simp at this; omega
      subst hn'
      rw [List.getElem?_append_right (Nat.le_refl _)] at e
      simp at e
      subst e
      exact ⟨p, vs, hat, hf, hr, upd_same, r.mono (Same.refl _) hm⟩
  · rcases List.mem_append.mp hb with q | q
    · obtain ⟨u, e⟩ := s.old b q
      exact ⟨u, by rw [upd_ne (ne_of_none e hp)]; exact e⟩
    · have : b = p := by simpa using q
      subst this
      exact ⟨_, upd_same⟩
theorem nodup_at {l : List Addr} (h : l.Nodup) {i j : Nat} {a : Addr} (hi : l[i]? = some a) (hj : l[j]? = some a) : i = j :=
  nd_ix h hi hj
/-- a list that may change is changed -/
theorem SR.turn {n : Nat} {ds es : List D} {ws : List V} {a : Addr} (s : SR K μ Hf Fr H M) (hM : M[n]? = some (some ds)) (ha : μ[n]? = some a) (r : RepAll K μ Hf ws es) :
    SR K μ Hf Fr (upd H a (.lst ws)) (M.set n (some es)) := by
  obtain ⟨a', vs, h1, h2, h3, h4, h5⟩ := s.cell n ds hM
  rw [ha] at h1; cases h1
  have hn : n < M.length := (List.getElem?_eq_some_iff.mp hM).1
  refine ⟨fun b u e => ?_, fun b u e => ?_, s.dis, by simp [s.len], s.nd, fun k ks e => ?_, fun b hb => ?_, tabs_turn s.tb h4 rfl, s.px, s.pr, s.of⟩
  · rw [upd_ne (ne_of_none e h2)]; exact s.ex b u e
  · rw [upd_ne (ne_of_none e h3)]; exact s.fr b u e
  · by_cases hk : n = k
    · subst hk
      rw [List.getElem?_set_self hn] at e
      cases e
      exact ⟨a, ws, ha, h2, h3, upd_same, r⟩
    · rw [List.getElem?_set_ne hk] at e
      obtain ⟨b, us, g1, g2, g3, g4, g5⟩ := s.cell k ks e
      have hb : b ≠ a := fun z => hk (nodup_at s.nd ha (z ▸ g1))
      exact ⟨b, us, g1, g2, g3, by rw [upd_ne hb]; exact g4, g5⟩
  · by_cases hb' : b = a
    · subst hb'; exact ⟨_, upd_same⟩
    · obtain ⟨u, e⟩ := s.old b hb
      exact ⟨u, by rw [upd_ne hb']; exact e⟩
/-- all but the tables stays -/
theorem SR.extN {H1 : Hp} (s : SR K μ Hf Fr H M) (e : LamX.ExtN H H1) (t : LamX.Tabs (lamT K) H1) : SR K μ Hf Fr H1 M := by
  have nt : ∀ {o : HO}, plainO o = true → ∀ ps, o ≠ .tbl ps := fun h ps z => by subst z; cases h
  have nu : ∀ {o : HO}, noTbl o = true → ∀ ps, o ≠ .tbl ps := fun h ps z => by subst z; cases h
  refine ⟨fun b u q => e b u (s.ex b u q) (nu (s.px b u q)), fun b u q => e b u (s.fr b u q) (nt (s.pr b u q)), s.dis, s.len, s.nd, fun n ds q => ?_, fun b hb => ?_, t, s.px, s.pr, s.of⟩
  · obtain ⟨a, vs, h1, h2, h3, h4, h5⟩ := s.cell n ds q
    exact ⟨a, vs, h1, h2, h3, e a _ h4 (nt rfl), h5⟩
  · obtain ⟨u, q⟩ := s.old b hb
    exact ⟨u, e b _ q (nt rfl)⟩
/-- a list that may change becomes data -/
theorem SR.seal {n : Nat} {ds : List D} {a : Addr} (s : SR K μ Hf Fr H M) (hM : M[n]? = some (some ds)) (ha : μ[n]? = some a) :
    ∃ Hf', Same Hf Hf' ∧ SR K μ Hf' Fr H (M.set n none) ∧ Rep K μ Hf' (.ref a) (.lst ds) := by
  obtain ⟨a', vs, h1, h2, h3, h4, h5⟩ := s.cell n ds hM
  rw [ha] at h1; cases h1
  have hs : Same Hf (upd Hf a (.lst vs)) := fun b u e => by rw [upd_ne (ne_of_none e h2)]; exact e
  have hn : n < M.length := (List.getElem?_eq_some_iff.mp hM).1
  refine ⟨upd Hf a (.lst vs), hs, ⟨fun b u e => ?_, s.fr, fun b u e => ?_, by simp [s.len], s.nd, fun k ks e => ?_, s.old, s.tb, s.px.upd rfl, s.pr, s.of⟩, .lst upd_same (h5.mono hs (List.prefix_refl _))⟩
  · by_cases hb : b = a
    · subst hb; rw [upd_same] at e; rw [← e]; exact h4
    · rw [upd_ne hb] at e; exact s.ex b u e
  · have : b ≠ a := ne_of_none e h3
    rw [upd_ne this]; exact s.dis b u e
  · by_cases hk : n = k
    · subst hk
      rw [List.getElem?_set_self hn] at e
      cases e
    · rw [List.getElem?_set_ne hk] at e
      obtain ⟨b, us, g1, g2, g3, g4, g5⟩ := s.cell k ks e
      have hb : b ≠ a := fun z => hk (nodup_at s.nd ha (z ▸ g1))
      exact ⟨b, us, g1, by rw [upd_ne hb]; exact g2, g3, g4, g5.mono hs (List.prefix_refl _)⟩
end

/-! ### outcomes -/
structure XD where
  cls : Value
  fs : Option (List (Str × D))
inductive Out (α : Type) where
  | ok (a : α) (M : Mem)
  | exc (x : XD) (M : Mem)
  | no
def Out.bind {α β : Type} (o : Out α) (f : α → Mem → Out β) : Out β := match o with
  | .ok a M => f a M
  | .exc x M => .exc x M
  | .no => .no
@[simp] theorem Out.bind_ok {α β : Type} (a : α) (M : Mem) (f : α → Mem → Out β) : (Out.ok a M).bind f = f a M := rfl
@[simp] theorem Out.bind_no {α β : Type} (f : α → Mem → Out β) : (Out.no : Out α).bind f = .no := rfl
@[simp] theorem Out.bind_exc {α β : Type} (x : XD) (M : Mem) (f : α → Mem → Out β) : (Out.exc x M : Out α).bind f = .exc x M := rfl
def Out.map {α β : Type} (o : Out α) (f : α → β) : Out β := o.bind fun a M => .ok (f a) M
def FRep (K : Kf) (μ : List Addr) (Hf : Hp) : List (Str × V) → List (Str × D) → Prop
  | [], [] => True
  | (f, v) :: vs, (g, d) :: ds => f = g ∧ Rep K μ Hf v d ∧ FRep K μ Hf vs ds
  | _, _ => False
def XRep (K : Kf) (μ : List Addr) (Hf H : Hp) (x : XD) (dx : Option Addr) : Prop := match x.fs with
  | none => dx = none
  | some fs => ∃ d fv, dx = some d ∧ H d = some (.xd fv) ∧ FRep K μ Hf fv fs
def Post {α : Type} (K : Kf) (E : XK) (o : Out α) (μ : List Addr) (Hf Fr : Hp) (k : α → List Addr → Hp → Hp → Mem → Prop) : Prop := match o with
  | .ok a M' => ∀ H' Hf' μ', Same Hf Hf' → μ <+: μ' → SR K μ' Hf' Fr H' M' → k a μ' Hf' H' M'
  | .exc x M' => ∀ dx H' Hf' μ', Same Hf Hf' → μ <+: μ' → SR K μ' Hf' Fr H' M' → XRep K μ' Hf' H' x dx → E x.cls dx H'
  | .no => False
section
variable {α β : Type} {K : Kf} {E : XK} {o : Out α} {μ μ1 : List Addr} {Hf Hf1 Fr : Hp} {k k' : α → List Addr → Hp → Hp → Mem → Prop}
theorem Post.later (h : Post K E o μ Hf Fr k) (e : Same Hf Hf1) (m : μ <+: μ1) : Post K E o μ1 Hf1 Fr k := by
  cases o with
  | ok a M => exact fun H' Hf' μ' e' m' s => h H' Hf' μ' (e.trans e') (m.trans m') s
  | exc x M => exact fun dx H' Hf' μ' e' m' s => h dx H' Hf' μ' (e.trans e') (m.trans m') s
  | no => exact h
theorem Post.weak (h : Post K E o μ Hf Fr k) (i : ∀ a μ' Hf' H' M', Same Hf Hf' → μ <+: μ' → SR K μ' Hf' Fr H' M' → k a μ' Hf' H' M' → k' a μ' Hf' H' M') : Post K E o μ Hf Fr k' := by
  cases o with
  | ok a M => exact fun H' Hf' μ' e m s => i a μ' Hf' H' M e m s (h H' Hf' μ' e m s)
  | exc x M => exact h
  | no => exact h
theorem Post.split {f : α → Mem → Out β} {k : β → List Addr → Hp → Hp → Mem → Prop} (h : Post K E (o.bind f) μ Hf Fr k) :
    Post K E o μ Hf Fr (fun a μ1 Hf1 _ M1 => Post K E (f a M1) μ1 Hf1 Fr k) := by
  cases o with
  | ok a M => exact fun H' Hf' μ' e m _ => Post.later (o := f a M) h e m
  | exc x M => exact h
  | no => exact h
end
/-- by values: what follows, by data -/
abbrev kD (K : Kf) (Q : VK) : D → List Addr → Hp → Hp → Mem → Prop := fun d μ' Hf' H' _ => ∀ v, Rep K μ' Hf' v d → Q v H'
abbrev kA (K : Kf) (Q : List V → Hp → Prop) : List D → List Addr → Hp → Hp → Mem → Prop := fun ds μ' Hf' H' _ => ∀ vs, RepAll K μ' Hf' vs ds → Q vs H'
abbrev kB (Q : Bool → Hp → Prop) : Bool → List Addr → Hp → Hp → Mem → Prop := fun b _ _ H' _ => Q b H'
inductive Fl where
  | nx (ρ : Ro) | rt (d : D) | bk (ρ : Ro) | ct (ρ : Ro)
def kS (K : Kf) (N : Ends) : Fl → List Addr → Hp → Hp → Mem → Prop := fun f μ' Hf' H' _ => match f with
  | .nx ρ => ∀ σ, ERep K μ' Hf' σ ρ → N.nx σ H'
  | .rt d => ∀ v, Rep K μ' Hf' v d → N.rt v H'
  | .bk ρ => ∀ σ, ERep K μ' Hf' σ ρ → N.bk σ H'
  | .ct ρ => ∀ σ, ERep K μ' Hf' σ ρ → N.ct σ H'
abbrev FE := Ro → Mem → Out D
abbrev FA := Ro → Mem → Out (List D)
abbrev FT := Ro → Mem → Out Bool
abbrev FS := Ro → Mem → Out Fl
def teF (K : Kf) (E : XK) (F : FE) : TE := fun σ H Q => ∃ μ Hf Fr ρ M, ERep K μ Hf σ ρ ∧ SR K μ Hf Fr H M ∧ Post K E (F ρ M) μ Hf Fr (kD K Q)
def taF (K : Kf) (E : XK) (F : FA) : TA := fun σ H Q => ∃ μ Hf Fr ρ M, ERep K μ Hf σ ρ ∧ SR K μ Hf Fr H M ∧ Post K E (F ρ M) μ Hf Fr (kA K Q)
def ttF (K : Kf) (E : XK) (F : FT) : TT := fun σ H Q => ∃ μ Hf Fr ρ M, ERep K μ Hf σ ρ ∧ SR K μ Hf Fr H M ∧ Post K E (F ρ M) μ Hf Fr (kB Q)
def tsF (K : Kf) (E : XK) (F : FS) : TS := fun N σ H => ∃ μ Hf Fr ρ M, ERep K μ Hf σ ρ ∧ SR K μ Hf Fr H M ∧ Post K E (F ρ M) μ Hf Fr (kS K N)
abbrev DE (X : Cx) (E : XK) (e : Expr) (F : FE) : Prop := PE X e (teF X.K E F)
abbrev DA (X : Cx) (E : XK) (es : List Expr) (F : FA) : Prop := PA X es (taF X.K E F)
abbrev DT (X : Cx) (E : XK) (e : Expr) (F : FT) : Prop := PT X e (ttF X.K E F)
abbrev DS (X : Cx) (E : XK) (st : Stmt) (F : FS) : Prop := PS X st (tsF X.K E F)
abbrev DSs (X : Cx) (E : XK) (st : List Stmt) (F : FS) : Prop := PSs X st (tsF X.K E F)
section
variable {X : Cx} {e : Expr} {es : List Expr} {st : Stmt} {sts : List Stmt}
theorem pe_imp {t t' : TE} (h : PE X e t) (i : ∀ σ H Q, t' σ H Q → t σ H Q) : PE X e t' := ⟨fun pins s σ H Q I q => h.run pins s σ H Q I (i σ H Q q)⟩
theorem pt_imp {t t' : TT} (h : PT X e t) (i : ∀ σ H Q, t' σ H Q → t σ H Q) : PT X e t' := ⟨fun pins s σ H Q I q => h.run pins s σ H Q I (i σ H Q q)⟩
theorem pa_imp {t t' : TA} (h : PA X es t) (i : ∀ σ H Q, t' σ H Q → t σ H Q) : PA X es t' := ⟨fun pos pins s σ H Q I q => h.run pos pins s σ H Q I (i σ H Q q)⟩
theorem ps_imp {t t' : TS} (h : PS X st t) (i : ∀ N σ H, t' N σ H → t N σ H) : PS X st t' := ⟨fun pins s σ H N I q => h.run pins s σ H N I (i N σ H q)⟩
theorem pss_imp {t t' : TS} (h : PSs X sts t) (i : ∀ N σ H, t' N σ H → t N σ H) : PSs X sts t' := ⟨fun pins s σ H N I q => h.run pins s σ H N I (i N σ H q)⟩
end
end Den
namespace Den
open PySem PySem.Spec PyProof.Rows L2

/-! ### operators by data -/
abbrev G2 := D → D → Mem → Out D
def rD2 (K : Kf) (E : XK) (g : G2) : R2 := fun x y H Q => ∃ μ Hf Fr M d1 d2, Rep K μ Hf x d1 ∧ Rep K μ Hf y d2 ∧ SR K μ Hf Fr H M ∧ Post K E (g d1 d2 M) μ Hf Fr (kD K Q)
@[simp] def eTwo (g : G2) (fa fb : FE) : FE := fun ρ M => (fa ρ M).bind fun x M1 => (fb ρ M1).bind fun y M2 => g x y M2
theorem two_go {K : Kf} {E : XK} {g : G2} {fa fb : FE} {σ : L2.St} {H : Hp} {Q : VK} (h : teF K E (eTwo g fa fb) σ H Q) : tOp (rD2 K E g) (teF K E fa) (teF K E fb) σ H Q := by
  obtain ⟨μ, Hf, Fr, ρ, M, r, s, p⟩ := h
  refine ⟨μ, Hf, Fr, ρ, M, r, s, p.split.weak fun x μ1 Hf1 H1 M1 e1 m1 s1 p1 v1 r1 => ?_⟩
  refine ⟨μ1, Hf1, Fr, ρ, M1, r.mono e1 m1, s1, p1.split.weak fun y μ2 Hf2 H2 M2 e2 m2 s2 p2 v2 r2 => ?_⟩
  exact ⟨μ2, Hf2, Fr, M2, x, y, Rep.mono e2 m2 _ _ r1, r2, s2, p2⟩
/-- what follows, at the state as it is -/
theorem Post.now {α : Type} {K : Kf} {E : XK} {a : α} {M : Mem} {μ : List Addr} {Hf Fr H : Hp} {k : α → List Addr → Hp → Hp → Mem → Prop} (p : Post K E (.ok a M) μ Hf Fr k) (s : SR K μ Hf Fr H M) : k a μ Hf H M :=
  p H Hf μ (Same.refl _) (List.prefix_refl _) s
/-- a new object handed out as data -/
theorem Post.new {K : Kf} {E : XK} {d : D} {M : Mem} {μ : List Addr} {Hf Fr H : Hp} {Q : VK} {o : HO} (p : Post K E (.ok d M) μ Hf Fr (kD K Q)) (s : SR K μ Hf Fr H M) {q : Addr} (hq : H q = none)
    (r : Same Hf (upd Hf q o) → Rep K μ (upd Hf q o) (.ref q) d) (ho : noTbl o = true := by rfl) : Q (.ref q) (upd H q o) := by
  obtain ⟨s', e⟩ := s.froz (o := o) hq ho
  exact p (upd H q o) (upd Hf q o) μ e (List.prefix_refl _) s' _ (r e)
theorem rep_lst {K : Kf} {μ : List Addr} {Hf : Hp} {q : Addr} {vs : List V} {ds : List D} (r : RepAll K μ Hf vs ds) (e : Same Hf (upd Hf q (.lst vs))) : Rep K μ (upd Hf q (.lst vs)) (.ref q) (.lst ds) :=
  .lst upd_same (r.mono e (List.prefix_refl _))
theorem rep_tup {K : Kf} {μ : List Addr} {Hf : Hp} {q : Addr} {vs : List V} {ds : List D} (r : RepAll K μ Hf vs ds) (e : Same Hf (upd Hf q (.tup vs))) : Rep K μ (upd Hf q (.tup vs)) (.ref q) (.tup ds) :=
  .tup (SqT.of upd_same) (r.mono e (List.prefix_refl _))

@[irreducible] def lineD : Nat := 1000000
theorem lineD_eq : lineD = 1000000 := by unfold lineD; rfl
theorem lineD_le : lineD ≤ sizeLine := by rw [lineD_eq]; decide
theorem line_le {n : Nat} (h : n ≤ lineD) : n ≤ sizeLine := Nat.le_trans h lineD_le
theorem line_lt {n : Nat} (h : n < lineD) : n < sizeLine := Nat.lt_of_lt_of_le h lineD_le
theorem line1k {n : Nat} (h : n ≤ 10000) : n ≤ lineD := by rw [lineD_eq]; omega

section
variable {X : Cx} {E : XK} {a b c e : Expr} {es : List Expr} {fa fb fc F : FE} {pos : Pos}
theorem de_c {d : D} {t : TE} (v : V) (h : PE X e (tC v)) (r : ∀ μ Hf, Rep X.K μ Hf v d) : DE X E e (fun _ M => .ok d M) :=
  pe_imp h fun σ H Q ⟨μ, Hf, Fr, ρ, M, _, s, p⟩ => p.now s v (r μ Hf)
theorem de_int {i j pos} : DE X E (.Constant (.int i) j pos) (fun _ M => .ok (.int i) M) := de_c (t := tC (.int i)) (.int i) pe_int fun _ _ => .int i
theorem de_str {i j pos} : DE X E (.Constant (.str i) j pos) (fun _ M => .ok (.str i) M) := de_c (t := tC (.str i)) (.str i) pe_str fun _ _ => .str i
theorem de_bl {i j pos} : DE X E (.Constant (.bool i) j pos) (fun _ M => .ok (.bl i) M) := de_c (t := tC (.bl i)) (.bl i) pe_bl fun _ _ => .bl i
theorem de_non {j pos} : DE X E (.Constant .none j pos) (fun _ M => .ok .non M) := de_c (t := tC .non) .non pe_non fun _ _ => .non
/-- a name of the module -/
theorem de_glob {x : Str} {v : V} {u : Value} {d : D} {pos : Pos} (hg : Gl X x) (hm : X.mg x = some u) (r : RelV v u) (q : ∀ μ Hf, Rep X.K μ Hf v d) (hd : (x == ("__debug__" : Str)) = false := by decide) : DE X E (.Name x pos) (fun _ M => .ok d M) :=
  de_c (t := tC v) v (pe_glob hg hm r hd) q
@[simp] def eVar (i : Nat) : FE := fun ρ M => match ρ[i]? with
  | some (some d) => .ok d M
  | _ => .no
theorem de_var {i : Nat} {x : Str} {pos : Pos} (h : PE X (.Name x pos) (tVar i)) : DE X E (.Name x pos) (eVar i) := by
  refine pe_imp h fun σ H Q ⟨μ, Hf, Fr, ρ, M, r, s, p⟩ => ?_
  unfold eVar at p
  split at p
  · rename_i d e
    obtain ⟨v, h1, h2⟩ := r.slot i d e
    exact ⟨v, h1, p.now s v h2⟩
  · exact p.elim
theorem de_two {op : Operator} {g : G2} (ho : OpR X (binaryOp op) (rD2 X.K E g)) (ha : DE X E a fa) (hb : DE X E b fb) : DE X E (.BinOp a op b pos) (eTwo g fa fb) :=
  pe_imp (pe_op ho ha hb) fun _ _ _ h => two_go h
theorem de_cmp {op : CmpOp} {g : G2} (ho : OpR X (compareOp op) (rD2 X.K E g)) (ha : DE X E a fa) (hb : DE X E b fb) (hm : behindInMarks op b = false) : DE X E (.Compare a [op] [b] pos) (eTwo g fa fb) :=
  pe_imp (pe_cmpR ho ha hb hm) fun _ _ _ h => two_go h
/-- a value that is a bool, as a test -/
@[simp] def asB (o : Out D) : Out Bool := o.bind fun d M => match d with
  | .bl k => .ok k M
  | _ => .no
@[simp] def fB (F : FE) : FT := fun ρ M => asB (F ρ M)
theorem post_asB {K : Kf} {o : Out D} {μ : List Addr} {Hf Fr : Hp} {Q : Bool → Hp → Prop} (p : Post K E (asB o) μ Hf Fr (kB Q)) : Post K E o μ Hf Fr (kD K fun x H' => ∃ k, x = .bl k ∧ Q k H') := by
  refine p.split.weak fun d μ1 Hf1 H1 M1 e1 m1 s1 p1 v r => ?_
  cases d with
  | bl k => cases r; exact ⟨k, rfl, p1.now s1⟩
  | _ => exact p1.elim
theorem dt_of {op : CmpOp} {g : G2} (ho : OpR X (compareOp op) (rD2 X.K E g)) (ha : DE X E a fa) (hb : DE X E b fb) (hm : behindInMarks op b = false) : DT X E (.Compare a [op] [b] pos) (fB (eTwo g fa fb)) := by
  refine pt_imp (pt_cmpR ho ha hb hm) fun σ H Q ⟨μ, Hf, Fr, ρ, M, r, s, p⟩ => ?_
  exact two_go ⟨μ, Hf, Fr, ρ, M, r, s, post_asB p⟩
theorem dt_val (h : DE X E e F) (he : ∀ whole, isTrue e X.env whole = (do let v ← whole; standAt e.pos; holding [v] (truthy v)) := by intro _; rfl) : DT X E e (fB F) := by
  refine pt_imp (pt_val h he) fun σ H Q ⟨μ, Hf, Fr, ρ, M, r, s, p⟩ => ?_
  exact ⟨μ, Hf, Fr, ρ, M, r, s, post_asB p⟩

/-! ### whole numbers -/
def mulC (i j : Int) : Prop := CMul i j ∨ CMulW i j
instance (i j : Int) : Decidable (mulC i j) := by unfold mulC CMul CMulW; infer_instance
def powC (i j : Int) : Prop := 0 ≤ j ∧ (Builtin.Int.intBits i : Int) * j ≤ 2 ^ 27
instance (i j : Int) : Decidable (powC i j) := by unfold powC; infer_instance
theorem op_mulA : OpR X (binaryOp .Mult) (rI mulC fun i j => .int (i * j)) := opI fun _ _ _ _ _ _ _ hc q => mul_int q (hc.elim CMul.ok CMulW.ok)
theorem op_powA : OpR X (binaryOp .Pow) (rI powC fun i j => .int (i ^ j.toNat)) := opI fun _ _ _ _ _ _ _ hc q => pow_int hc.1 hc.2 q
@[simp] def iG (C : Int → Int → Prop) [∀ i j, Decidable (C i j)] (g : Int → Int → D) : G2 := fun x y M => match x, y with
  | .int i, .int j => if C i j then .ok (g i j) M else .no
  | _, _ => .no
theorem ints_of {K : Kf} {C : Int → Int → Prop} [∀ i j, Decidable (C i j)] {g : Int → Int → D} {g' : Int → Int → V} (hg : ∀ i j μ Hf, Rep K μ Hf (g' i j) (g i j)) {x y : V} {H : Hp} {Q : VK} (h : rD2 K E (iG C g) x y H Q) : rI C g' x y H Q := by
  obtain ⟨μ, Hf, Fr, M, d1, d2, r1, r2, s, p⟩ := h
  unfold iG at p
  split at p
  · cases r1; cases r2
    split at p
    · rename_i hc
      exact ⟨_, _, rfl, rfl, hc, p.now s _ (hg _ _ _ _)⟩
    · exact p.elim
  · exact p.elim
theorem opr_imp {f : Value → Value → Sem Value} {r r' : R2} (h : OpR X f r) (i : ∀ x y H Q, r' x y H Q → r x y H Q) : OpR X f r' :=
  fun pins s σ H x y v u Q I rx ry q => h pins s σ H x y v u Q I rx ry (i x y H Q q)
@[simp] def TT2 (_ _ : Int) : Prop := True
instance (i j : Int) : Decidable (TT2 i j) := by unfold TT2; infer_instance
theorem rI_true {g : Int → Int → V} {x y : V} {H : Hp} {Q : VK} (h : rI TT2 g x y H Q) : rI0 g x y H Q := by
  obtain ⟨i, j, h1, h2, _, q⟩ := h
  exact ⟨i, j, h1, h2, q⟩
def gSub : G2 := iG TT2 fun i j => .int (i - j)
@[simp] theorem gSub_ap (x y : D) (M : Mem) : gSub x y M = (iG TT2 fun i j => .int (i - j)) x y M := rfl
@[simp] def pos2 (_ j : Int) : Prop := 0 < j
instance (i j : Int) : Decidable (pos2 i j) := by unfold pos2; infer_instance
instance (i j : Int) : Decidable (CDivW i j) := by unfold CDivW; infer_instance
def gMul : G2 := iG mulC fun i j => .int (i * j)
def gPow : G2 := iG powC fun i j => .int (i ^ j.toNat)
def gDiv : G2 := iG CDivW fun i j => .int (i / j)
def gMod : G2 := iG pos2 fun i j => .int (i % j)
theorem o_sub : OpR X (binaryOp .Sub) (rD2 X.K E gSub) := opr_imp op_sub fun _ _ _ _ h => rI_true (ints_of (fun _ _ _ _ => .int _) h)
theorem o_mul : OpR X (binaryOp .Mult) (rD2 X.K E gMul) := opr_imp op_mulA fun _ _ _ _ h => ints_of (fun _ _ _ _ => .int _) h
theorem o_pow : OpR X (binaryOp .Pow) (rD2 X.K E gPow) := opr_imp op_powA fun _ _ _ _ h => ints_of (fun _ _ _ _ => .int _) h
theorem o_div : OpR X (binaryOp .FloorDiv) (rD2 X.K E gDiv) := opr_imp op_fdivW fun _ _ _ _ h => ints_of (fun _ _ _ _ => .int _) h
theorem o_mod : OpR X (binaryOp .Mod) (rD2 X.K E gMod) := opr_imp op_mod fun _ _ _ _ h => ints_of (C := pos2) (fun _ _ _ _ => .int _) h
def gLt : G2 := iG TT2 fun i j => .bl (decide (i < j))
@[simp] theorem gLt_ap (x y : D) (M : Mem) : gLt x y M = (iG TT2 fun i j => .bl (decide (i < j))) x y M := rfl
def gLe : G2 := iG TT2 fun i j => .bl (decide (i ≤ j))
@[simp] theorem gLe_ap (x y : D) (M : Mem) : gLe x y M = (iG TT2 fun i j => .bl (decide (i ≤ j))) x y M := rfl
def gGt : G2 := iG TT2 fun i j => .bl (decide (j < i))
@[simp] theorem gGt_ap (x y : D) (M : Mem) : gGt x y M = (iG TT2 fun i j => .bl (decide (j < i))) x y M := rfl
def gGe : G2 := iG TT2 fun i j => .bl (decide (j ≤ i))
@[simp] theorem gGe_ap (x y : D) (M : Mem) : gGe x y M = (iG TT2 fun i j => .bl (decide (j ≤ i))) x y M := rfl
theorem o_gt : OpR X (compareOp .Gt) (rD2 X.K E gGt) := opr_imp op_gt fun _ _ _ _ h => rI_true (ints_of (fun _ _ _ _ => .bl _) h)
theorem o_ge : OpR X (compareOp .GtE) (rD2 X.K E gGe) := opr_imp op_ge fun _ _ _ _ h => rI_true (ints_of (fun _ _ _ _ => .bl _) h)
theorem o_ltI : OpR X (compareOp .Lt) (rD2 X.K E gLt) := opr_imp op_lt fun _ _ _ _ h => rI_true (ints_of (fun _ _ _ _ => .bl _) h)
theorem o_leI : OpR X (compareOp .LtE) (rD2 X.K E gLe) := opr_imp op_le fun _ _ _ _ h => rI_true (ints_of (fun _ _ _ _ => .bl _) h)
/-- <= of two texts -/
def gLeS : G2 := fun x y M => match x, y with
  | .str a, .str b => .ok (.bl (decide (a.cps.toList ≤ b.cps.toList))) M
  | _, _ => .no

/-! ### + -/
@[simp] def gAdd : G2 := fun x y M => match x, y with
  | .int i, .int j => .ok (.int (i + j)) M
  | .str i, .str j => if i.length + j.length ≤ lineD then .ok (.str (i ++ j)) M else .no
  | .lst i, .lst j => if i.length + j.length ≤ lineD then .ok (.lst (i ++ j)) M else .no
  | _, _ => .no
theorem o_add : OpR X (binaryOp .Add) (rD2 X.K E gAdd) := by
  refine opr_imp (op_add.or (op_add_str.or op_cat)) fun x y H Q ⟨μ, Hf, Fr, M, d1, d2, r1, r2, s, p⟩ => ?_
  unfold gAdd at p
  split at p
  · cases r1; cases r2
    exact .inl ⟨_, _, rfl, rfl, p.now s _ (.int _)⟩
  · cases r1; cases r2
    split at p
    · rename_i hz
      exact .inr (.inl ⟨_, _, rfl, rfl, line_le hz, p.now s _ (.str _)⟩)
    · exact p.elim
  · split at p
    · rename_i hz
      cases r1 with
      | lst h1 q1 =>
        cases r2 with
        | lst h2 q2 =>
          refine .inr (.inr ⟨_, _, _, _, rfl, rfl, s.ex _ _ h1, s.ex _ _ h2, line_le (by rw [q1.length, q2.length]; exact hz), fun q hq => ?_⟩)
          exact p.new s hq fun e => rep_lst (q1.app q2) e
    · exact p.elim
  · exact p.elim

/-! ### data as the library's data: ==, !=, repr -/
mutual
def toPy : D → Option PyData
  | .non => some .none
  | .bl b => some (.bool b)
  | .int i => some (.int i)
  | .str x => some (.str x)
  | .lst xs => (toPys xs).map .list
  | .tup xs => (toPys xs).map .tuple
  | _ => none
def toPys : List D → Option (List PyData)
  | [] => some []
  | d :: ds => match toPy d, toPys ds with
    | some x, some xs => some (x :: xs)
    | _, _ => none
end
mutual
theorem Rep.dp {K : Kf} {μ : List Addr} {H H' : Hp} (e : Same H H') : ∀ (d : D) (v : V) (y : PyData), Rep K μ H v d → toPy d = some y → Dp K H' v y
  | .non, _, _, h, q => by cases h; cases q; exact .non
  | .bl _, _, _, h, q => by cases h; cases q; exact .bl _
  | .int _, _, _, h, q => by cases h; cases q; exact .int _
  | .str _, _, _, h, q => by cases h; cases q; exact .str _
  | .lst ds, _, y, h, q => by
    cases h with
    | lst s r =>
      unfold toPy at q
      cases hq : toPys ds with
      | none => rw [hq] at q; cases q
      | some ys =>
        rw [hq] at q; cases q
        exact .lst (SqL.of (e _ _ s)) (RepAll.dp e ds _ ys r hq)
  | .tup ds, _, y, h, q => by
    cases h with
    | tup s r =>
      unfold toPy at q
      cases hq : toPys ds with
      | none => rw [hq] at q; cases q
      | some ys =>
        rw [hq] at q; cases q
        exact .tup (same_t e s) (RepAll.dp e ds _ ys r hq)
  | .ty _, _, _, _, q => by cases q
  | .fn _, _, _, _, q => by cases q
  | .scr _, _, _, _, q => by cases q
  | .dct _ _, _, _, _, q => by cases q
  | .loc _, _, _, _, q => by cases q
  | .ins _ _ _, _, _, _, q => by cases q
  | .exn _ _ _, _, _, _, q => by cases q
theorem RepAll.dp {K : Kf} {μ : List Addr} {H H' : Hp} (e : Same H H') : ∀ (ds : List D) (vs : List V) (ys : List PyData), RepAll K μ H vs ds → toPys ds = some ys → DpAll K H' vs ys
  | [], _, _, h, q => by cases h; cases q; exact .nil
  | d :: ds, _, ys, h, q => by
    cases h with
    | cons r t =>
      unfold toPys at q
      cases h1 : toPy d with
      | none => rw [h1] at q; cases q
      | some x =>
        cases h2 : toPys ds with
        | none => rw [h1, h2] at q; cases q
        | some xs =>
          rw [h1, h2] at q; cases q
          exact .cons (Rep.dp e d _ x r h1) (RepAll.dp e ds _ xs t h2)
end
@[simp] def gEqv (f : Bool → Bool) : G2 := fun x y M => match x, y with
  | .str a, .str b => .ok (.bl (f (decide (a = b)))) M
  | .int a, .int b => .ok (.bl (f (decide (a = b)))) M
  | .bl a, .bl b => .ok (.bl (f (decide (a = b)))) M
  | x, y => match toPy x, toPy y with
    | some p, some q => if SeqAt.shaped p = true ∧ SeqAt.shaped q = true then .ok (.bl (f (PyData.eqv p q))) M else .no
    | _, _ => .no
def gEq : G2 := gEqv fun b => b
@[simp] theorem gEq_ap (x y : D) (M : Mem) : gEq x y M = (gEqv fun b => b) x y M := rfl
def gNe : G2 := gEqv fun b => !b
@[simp] theorem gNe_ap (x y : D) (M : Mem) : gNe x y M = (gEqv fun b => !b) x y M := rfl
theorem dec_ctor {α : Type} [DecidableEq α] {c : α → V} (h : ∀ a b, c a = c b → a = b) (a b : α) : decide (c a = c b) = decide (a = b) := decide_eq_decide.mpr ⟨h a b, fun e => by rw [e]⟩
theorem o_eq (hu : X.A.units + 64 < cLine) : OpR X (compareOp .Eq) (rD2 X.K E gEq) := by
  refine opr_imp (op_eq.or (op_eqD hu)) fun x y H Q ⟨μ, Hf, Fr, M, d1, d2, r1, r2, s, p⟩ => ?_
  unfold gEq gEqv at p
  split at p
  · cases r1; cases r2; exact .inl ⟨rfl, by rw [dec_ctor (c := V.str) fun a b e => V.str.inj e]; exact p.now s _ (.bl _)⟩
  · cases r1; cases r2; exact .inl ⟨rfl, by rw [dec_ctor (c := V.int) fun a b e => V.int.inj e]; exact p.now s _ (.bl _)⟩
  · cases r1; cases r2; exact .inl ⟨rfl, by rw [dec_ctor (c := V.bl) fun a b e => V.bl.inj e]; exact p.now s _ (.bl _)⟩
  · split at p
    · rename_i p1 p2 e1 e2
      split at p
      · rename_i hs
        exact .inr ⟨p1, p2, r1.dp s.ex _ _ _ e1, r2.dp s.ex _ _ _ e2, hs.1, hs.2, p.now s _ (.bl _)⟩
      · exact p.elim
    · exact p.elim
theorem o_ne (hu : X.A.units + 64 < cLine) : OpR X (compareOp .NotEq) (rD2 X.K E gNe) := by
  refine opr_imp (op_ne.or (op_neD hu)) fun x y H Q ⟨μ, Hf, Fr, M, d1, d2, r1, r2, s, p⟩ => ?_
  unfold gNe gEqv at p
  split at p
  · cases r1; cases r2; exact .inl ⟨rfl, by rw [dec_ctor (c := V.str) fun a b e => V.str.inj e]; exact p.now s _ (.bl _)⟩
  · cases r1; cases r2; exact .inl ⟨rfl, by rw [dec_ctor (c := V.int) fun a b e => V.int.inj e]; exact p.now s _ (.bl _)⟩
  · cases r1; cases r2; exact .inl ⟨rfl, by rw [dec_ctor (c := V.bl) fun a b e => V.bl.inj e]; exact p.now s _ (.bl _)⟩
  · split at p
    · rename_i p1 p2 e1 e2
      split at p
      · rename_i hs
        exact .inr ⟨p1, p2, r1.dp s.ex _ _ _ e1, r2.dp s.ex _ _ _ e2, hs.1, hs.2, p.now s _ (.bl _)⟩
      · exact p.elim
    · exact p.elim
end
end Den
namespace Den
open PySem PySem.Spec PyProof.Rows L2

/-! ### truth -/
@[simp] def truD (d : D) (M : Mem) : Option Bool := match d with
  | .non => some false
  | .bl b => some b
  | .int i => some (i != 0)
  | .str y => if y.length ≤ lineD then some ((y.length : Int) != 0) else none
  | .lst xs => some (!xs.isEmpty)
  | .scr xs => some (!xs.isEmpty)
  | .tup xs => some (!xs.isEmpty)
  | .loc n => match M[n]? with
    | some (some xs) => some (!xs.isEmpty)
    | _ => none
  | _ => none
theorem RepAll.empty {K : Kf} {μ : List Addr} {H : Hp} {vs : List V} {ds : List D} (r : RepAll K μ H vs ds) : vs.isEmpty = ds.isEmpty := by cases r <;> rfl
theorem tru_of {K : Kf} {μ : List Addr} {Hf Fr H : Hp} {M : Mem} {v : V} {d : D} {k : Bool} (s : SR K μ Hf Fr H M) (r : Rep K μ Hf v d) (h : truD d M = some k) : TruV K v H k := by
  unfold truD at h
  split at h
  · cases r; cases h; exact rfl
  · cases r; cases h; exact rfl
  · cases r; cases h; exact rfl
  · cases r
    split at h
    · rename_i hz; cases h; exact ⟨line_le hz, rfl⟩
    · cases h
  · cases h
    cases r with
    | lst q t => exact .inl ⟨_, SqL.of (s.ex _ _ q), by rw [t.empty]⟩
  · cases h
    cases r with
    | scr q t => exact .inl ⟨_, same_l s.ex q, by rw [t.empty]⟩
  · cases h
    cases r with
    | tup q t => exact .inr (.inl ⟨_, same_t s.ex q, by rw [t.empty]⟩)
  · cases r with
    | loc q =>
      split at h
      · rename_i xs hM
        cases h
        obtain ⟨a, vs, h1, h2, h3, h4, h5⟩ := s.cell _ _ hM
        rw [q] at h1; cases h1
        exact .inl ⟨_, SqL.of h4, by rw [h5.empty]⟩
      · cases h
  · cases h
@[simp] def truO (d : D) (M : Mem) : Out Bool := match truD d M with
  | some k => .ok k M
  | none => .no
@[simp] def fTru (F : FE) : FT := fun ρ M => (F ρ M).bind truO
section
variable {X : Cx} {E : XK} {a b c e o : Expr} {es rest : List Expr} {fa fb fc F : FE} {ft fu : FT} {pos : Pos}
theorem dt_tru (ha : DE X E a F) (he : ∀ whole, isTrue a X.env whole = (do let v ← whole; standAt a.pos; holding [v] (truthy v)) := by intro _; rfl) : DT X E a (fTru F) := by
  refine pt_imp (pt_truth ha he) fun σ H Q ⟨μ, Hf, Fr, ρ, M, r, s, p⟩ => ?_
  refine ⟨μ, Hf, Fr, ρ, M, r, s, p.split.weak fun d μ1 Hf1 H1 M1 e1 m1 s1 p1 v r1 => ?_⟩
  unfold truO at p1
  split at p1
  · rename_i k hk
    exact ⟨k, tru_of s1 r1 hk, p1.now s1⟩
  · exact p1.elim
@[simp] def tNotF (t : FT) : FT := fun ρ M => (t ρ M).bind fun k M1 => .ok (!k) M1
theorem dt_not (ha : DT X E a ft) : DT X E (.UnaryOp .Not a pos) (tNotF ft) := by
  refine pt_imp (pt_not ha) fun σ H Q ⟨μ, Hf, Fr, ρ, M, r, s, p⟩ => ?_
  exact ⟨μ, Hf, Fr, ρ, M, r, s, p.split.weak fun d μ1 Hf1 H1 M1 e1 m1 s1 p1 => p1.now s1⟩
abbrev DW (X : Cx) (E : XK) (e : Expr) (F : FT) : Prop := PW X e (ttF X.K E F)
@[simp] def tAndF (t u : FT) : FT := fun ρ M => (t ρ M).bind fun k M1 => if k = true then u ρ M1 else .ok false M1
@[simp] def tOrF (t u : FT) : FT := fun ρ M => (t ρ M).bind fun k M1 => if k = true then .ok true M1 else u ρ M1
theorem pw_imp {t t' : TT} (h : PW X e t) (i : ∀ σ H Q, t' σ H Q → t σ H Q) : PW X e t' := ⟨fun wh pins s σ H Q I q => h.run wh pins s σ H Q I (i σ H Q q)⟩
theorem dw_and1 (ha : DT X E a ft) : DW X E (.BoolOp .And [a] pos) ft := pw_and1 ha
theorem dw_or1 (ha : DT X E a ft) : DW X E (.BoolOp .Or [a] pos) ft := pw_or1 ha
theorem dw_and (ha : DT X E a ft) (hb : DW X E (.BoolOp .And (b :: rest) pos) fu) : DW X E (.BoolOp .And (a :: b :: rest) pos) (tAndF ft fu) := by
  refine pw_imp (pw_and ha hb) fun σ H Q ⟨μ, Hf, Fr, ρ, M, r, s, p⟩ => ?_
  refine ⟨μ, Hf, Fr, ρ, M, r, s, p.split.weak fun k μ1 Hf1 H1 M1 e1 m1 s1 p1 => ?_⟩
  cases k with
  | true => exact iteT ⟨μ1, Hf1, Fr, ρ, M1, r.mono e1 m1, s1, p1⟩
  | false => exact iteF (p1.now s1)
theorem dw_or (ha : DT X E a ft) (hb : DW X E (.BoolOp .Or (b :: rest) pos) fu) : DW X E (.BoolOp .Or (a :: b :: rest) pos) (tOrF ft fu) := by
  refine pw_imp (pw_or ha hb) fun σ H Q ⟨μ, Hf, Fr, ρ, M, r, s, p⟩ => ?_
  refine ⟨μ, Hf, Fr, ρ, M, r, s, p.split.weak fun k μ1 Hf1 H1 M1 e1 m1 s1 p1 => ?_⟩
  cases k with
  | true => exact iteT (p1.now s1)
  | false => exact iteF ⟨μ1, Hf1, Fr, ρ, M1, r.mono e1 m1, s1, p1⟩
theorem dt_w (h : DW X E e ft) : DT X E e ft := h.pt
/-- and, or, not as values -/
@[simp] def eAnd (fa fb : FE) : FE := fun ρ M => (fa ρ M).bind fun x M1 => (truO x M1).bind fun k M2 => if k = true then fb ρ M2 else .ok x M2
@[simp] def eOr (fa fb : FE) : FE := fun ρ M => (fa ρ M).bind fun x M1 => (truO x M1).bind fun k M2 => if k = true then .ok x M2 else fb ρ M2
@[simp] def eNot (fa : FE) : FE := fun ρ M => (fa ρ M).bind fun x M1 => (truO x M1).bind fun k M2 => .ok (.bl (!k)) M2
theorem truO_ok {d : D} {M M' : Mem} {k : Bool} (h : truD d M = some k) : truO d M = .ok k M := by unfold truO; rw [h]
theorem de_one {op} (h : DE X E a F) : DE X E (.BoolOp op [a] pos) F := pe_one h
theorem de_and (ha : DE X E a fa) (hb : DE X E (.BoolOp .And (b :: rest) pos) fb) : DE X E (.BoolOp .And (a :: b :: rest) pos) (eAnd fa fb) := by
  refine pe_imp (pe_andT ha hb) fun σ H Q ⟨μ, Hf, Fr, ρ, M, r, s, p⟩ => ?_
  refine ⟨μ, Hf, Fr, ρ, M, r, s, p.split.weak fun d μ1 Hf1 H1 M1 e1 m1 s1 p1 v r1 => ?_⟩
  cases hk : truD d M1 with
  | none => unfold truO at p1; rw [hk] at p1; exact p1.elim
  | some k =>
    rw [truO_ok hk (M' := M1)] at p1
    refine ⟨k, tru_of s1 r1 hk, ?_⟩
    cases k with
    | true => exact iteT ⟨μ1, Hf1, Fr, ρ, M1, r.mono e1 m1, s1, p1⟩
    | false => exact iteF (p1.now s1 v r1)
theorem de_or (ha : DE X E a fa) (hb : DE X E (.BoolOp .Or (b :: rest) pos) fb) : DE X E (.BoolOp .Or (a :: b :: rest) pos) (eOr fa fb) := by
  refine pe_imp (pe_orT ha hb) fun σ H Q ⟨μ, Hf, Fr, ρ, M, r, s, p⟩ => ?_
  refine ⟨μ, Hf, Fr, ρ, M, r, s, p.split.weak fun d μ1 Hf1 H1 M1 e1 m1 s1 p1 v r1 => ?_⟩
  cases hk : truD d M1 with
  | none => unfold truO at p1; rw [hk] at p1; exact p1.elim
  | some k =>
    rw [truO_ok hk (M' := M1)] at p1
    refine ⟨k, tru_of s1 r1 hk, ?_⟩
    cases k with
    | true => exact iteT (p1.now s1 v r1)
    | false => exact iteF ⟨μ1, Hf1, Fr, ρ, M1, r.mono e1 m1, s1, p1⟩
theorem de_not (ha : DE X E a fa) : DE X E (.UnaryOp .Not a pos) (eNot fa) := by
  refine pe_imp (pe_notT ha) fun σ H Q ⟨μ, Hf, Fr, ρ, M, r, s, p⟩ => ?_
  refine ⟨μ, Hf, Fr, ρ, M, r, s, p.split.weak fun d μ1 Hf1 H1 M1 e1 m1 s1 p1 v r1 => ?_⟩
  cases hk : truD d M1 with
  | none => unfold truO at p1; rw [hk] at p1; exact p1.elim
  | some k =>
    rw [truO_ok hk (M' := M1)] at p1
    exact ⟨k, tru_of s1 r1 hk, p1.now s1 _ (.bl _)⟩
@[simp] def eIf (t : FT) (fa fb : FE) : FE := fun ρ M => (t ρ M).bind fun k M1 => if k = true then fa ρ M1 else fb ρ M1
theorem de_ifx (hc : DT X E c ft) (ha : DE X E a fa) (hb : DE X E b fb) : DE X E (.IfExp c a b pos) (eIf ft fa fb) := by
  refine pe_imp (pe_ifExp hc ha hb) fun σ H Q ⟨μ, Hf, Fr, ρ, M, r, s, p⟩ => ?_
  refine ⟨μ, Hf, Fr, ρ, M, r, s, p.split.weak fun k μ1 Hf1 H1 M1 e1 m1 s1 p1 => ?_⟩
  cases k with
  | true => exact iteT ⟨μ1, Hf1, Fr, ρ, M1, r.mono e1 m1, s1, p1⟩
  | false => exact iteF ⟨μ1, Hf1, Fr, ρ, M1, r.mono e1 m1, s1, p1⟩
/-- a op b op' c -/
@[simp] def eChain (g g' : G2) (fa fb fc : FE) : FE := fun ρ M => (fa ρ M).bind fun x M1 => (fb ρ M1).bind fun y M2 => (asB (g x y M2)).bind fun k M3 => if k = true then (fc ρ M3).bind fun z M4 => g' y z M4 else .ok (.bl false) M3
theorem chain_go {K : Kf} {g g' : G2} {σ : L2.St} {H : Hp} {Q : VK} (h : teF K E (eChain g g' fa fb fc) σ H Q) : tChain (rD2 K E g) (rD2 K E g') (teF K E fa) (teF K E fb) (teF K E fc) σ H Q := by
  obtain ⟨μ, Hf, Fr, ρ, M, r, s, p⟩ := h
  refine ⟨μ, Hf, Fr, ρ, M, r, s, p.split.weak fun x μ1 Hf1 H1 M1 e1 m1 s1 p1 v1 r1 => ?_⟩
  refine ⟨μ1, Hf1, Fr, ρ, M1, r.mono e1 m1, s1, p1.split.weak fun y μ2 Hf2 H2 M2 e2 m2 s2 p2 v2 r2 => ?_⟩
  refine ⟨μ2, Hf2, Fr, M2, x, y, Rep.mono e2 m2 _ _ r1, r2, s2, ?_⟩
  refine p2.split.split.weak fun d μ3 Hf3 H3 M3 e3 m3 s3 p3 w rw => ?_
  cases d with
  | bl k =>
    cases rw
    refine ⟨k, rfl, ?_⟩
    have p4 := p3.now s3
    cases k with
    | true =>
      refine iteT ⟨μ3, Hf3, Fr, ρ, M3, ((r.mono e1 m1).mono e2 m2).mono e3 m3, s3, p4.split.weak fun z μ5 Hf5 H5 M5 e5 m5 s5 p5 v5 r5 => ?_⟩
      exact ⟨μ5, Hf5, Fr, M5, y, z, Rep.mono e5 m5 _ _ (Rep.mono e3 m3 _ _ r2), r5, s5, p5⟩
    | false => exact iteF (p4.now s3 _ (.bl _))
  | _ => exact p3.elim
theorem de_chain {op op' : CmpOp} {g g' : G2} (ho : OpR X (compareOp op) (rD2 X.K E g)) (ho' : OpR X (compareOp op') (rD2 X.K E g')) (ha : DE X E a fa) (hb : DE X E b fb) (hc : DE X E c fc)
    (hm : lastMarks [op, op'] [b, c] = false := by with_unfolding_all rfl) : DE X E (.Compare a [op, op'] [b, c] pos) (eChain g g' fa fb fc) :=
  pe_imp (pe_chain ho ho' ha hb hc hm) fun _ _ _ h => chain_go h
theorem dt_chain {op op' : CmpOp} {g g' : G2} (ho : OpR X (compareOp op) (rD2 X.K E g)) (ho' : OpR X (compareOp op') (rD2 X.K E g')) (ha : DE X E a fa) (hb : DE X E b fb) (hc : DE X E c fc)
    (hm : lastMarks [op, op'] [b, c] = false := by with_unfolding_all rfl) : DT X E (.Compare a [op, op'] [b, c] pos) (fB (eChain g g' fa fb fc)) := by
  refine pt_imp (pt_chain ho ho' ha hb hc hm) fun σ H Q ⟨μ, Hf, Fr, ρ, M, r, s, p⟩ => ?_
  exact chain_go ⟨μ, Hf, Fr, ρ, M, r, s, post_asB p⟩

/-! ### arguments, displays -/
@[simp] def aNil : FA := fun _ M => .ok [] M
@[simp] def aCons (f : FE) (g : FA) : FA := fun ρ M => (f ρ M).bind fun x M1 => (g ρ M1).bind fun xs M2 => .ok (x :: xs) M2
variable {fg : FA}
theorem da_nil : DA X E [] aNil := pa_imp pa_nil fun σ H Q ⟨μ, Hf, Fr, ρ, M, r, s, p⟩ => p.now s _ .nil
theorem da_cons (ha : DE X E e F) (hr : DA X E es fg) (hs : starEach (e :: es) X.env = (false, eval e X.env) :: starEach es X.env := by rfl) : DA X E (e :: es) (aCons F fg) := by
  refine pa_imp (pa_cons ha hr hs) fun σ H Q ⟨μ, Hf, Fr, ρ, M, r, s, p⟩ => ?_
  refine ⟨μ, Hf, Fr, ρ, M, r, s, p.split.weak fun x μ1 Hf1 H1 M1 e1 m1 s1 p1 v1 r1 => ?_⟩
  refine ⟨μ1, Hf1, Fr, ρ, M1, r.mono e1 m1, s1, p1.split.weak fun xs μ2 Hf2 H2 M2 e2 m2 s2 p2 vs rs => ?_⟩
  exact p2.now s2 _ (.cons (Rep.mono e2 m2 _ _ r1) rs)
@[simp] def eTup (g : FA) : FE := fun ρ M => (g ρ M).bind fun xs M1 => if xs.length ≤ lineD then .ok (.tup xs) M1 else .no
@[simp] def eLst (g : FA) : FE := fun ρ M => (g ρ M).bind fun xs M1 => if xs.length ≤ lineD then .ok (.lst xs) M1 else .no
@[simp] def eLoc (g : FA) : FE := fun ρ M => (g ρ M).bind fun xs M1 => if xs.length ≤ lineD then .ok (.loc M1.length) (M1 ++ [some xs]) else .no
theorem de_tup {x1} (h : DA X E es fg) : DE X E (.Tuple es x1 pos) (eTup fg) := by
  refine pe_imp (pe_tup h) fun σ H Q ⟨μ, Hf, Fr, ρ, M, r, s, p⟩ => ?_
  refine ⟨μ, Hf, Fr, ρ, M, r, s, p.split.weak fun xs μ1 Hf1 H1 M1 e1 m1 s1 p1 vs rs => ?_⟩
  split at p1
  · rename_i hz
    exact ⟨line_le (by rw [rs.length]; exact hz), fun q hq => p1.new s1 hq fun e => rep_tup rs e⟩
  · exact p1.elim
theorem de_lst (h : DA X E es fg) : DE X E (.List es pos) (eLst fg) := by
  refine pe_imp (pe_lst h) fun σ H Q ⟨μ, Hf, Fr, ρ, M, r, s, p⟩ => ?_
  refine ⟨μ, Hf, Fr, ρ, M, r, s, p.split.weak fun xs μ1 Hf1 H1 M1 e1 m1 s1 p1 vs rs => ?_⟩
  split at p1
  · rename_i hz
    exact ⟨line_le (by rw [rs.length]; exact hz), fun q hq => p1.new s1 hq fun e => rep_lst rs e⟩
  · exact p1.elim
/-- a new list handed out as one that may change -/
theorem Post.newLoc {K : Kf} {M : Mem} {μ : List Addr} {Hf Fr H : Hp} {Q : VK} {vs : List V} {ds : List D} (p : Post K E (.ok (.loc M.length) (M ++ [some ds])) μ Hf Fr (kD K Q)) (s : SR K μ Hf Fr H M) {q : Addr} (hq : H q = none)
    (r : RepAll K μ Hf vs ds) : Q (.ref q) (upd H q (.lst vs)) := by
  obtain ⟨s', e⟩ := s.grow hq r
  exact p _ Hf (μ ++ [q]) (Same.refl _) (List.prefix_append _ _) s' _ (.loc e)
theorem de_loc (h : DA X E es fg) : DE X E (.List es pos) (eLoc fg) := by
  refine pe_imp (pe_lst h) fun σ H Q ⟨μ, Hf, Fr, ρ, M, r, s, p⟩ => ?_
  refine ⟨μ, Hf, Fr, ρ, M, r, s, p.split.weak fun xs μ1 Hf1 H1 M1 e1 m1 s1 p1 vs rs => ?_⟩
  split at p1
  · rename_i hz
    exact ⟨line_le (by rw [rs.length]; exact hz), fun q hq => p1.newLoc s1 hq rs⟩
  · exact p1.elim
/-- a changing list becomes data -/
@[simp] def eSeal (F : FE) : FE := fun ρ M => (F ρ M).bind fun d M1 => match d with
  | .loc n => match M1[n]? with
    | some (some xs) => .ok (.lst xs) (M1.set n none)
    | _ => .no
  | _ => .no
theorem de_seal (h : DE X E e F) : DE X E e (eSeal F) := by
  refine pe_imp h fun σ H Q ⟨μ, Hf, Fr, ρ, M, r, s, p⟩ => ?_
  refine ⟨μ, Hf, Fr, ρ, M, r, s, p.split.weak fun d μ1 Hf1 H1 M1 e1 m1 s1 p1 v r1 => ?_⟩
  split at p1
  · cases r1 with
    | loc q =>
      split at p1
      · rename_i xs hM
        obtain ⟨Hf2, e2, s2, r2⟩ := s1.seal hM q
        exact p1 H1 Hf2 μ1 e2 (List.prefix_refl _) s2 _ r2
      · exact p1.elim
  · exact p1.elim

/-! ### calls of built-ins -/
abbrev GA := List D → Mem → Out D
def rA (K : Kf) (E : XK) (g : GA) : List V → Hp → VK → Prop := fun vs H Q => ∃ μ Hf Fr M ds, RepAll K μ Hf vs ds ∧ SR K μ Hf Fr H M ∧ Post K E (g ds M) μ Hf Fr (kD K Q)
@[simp] def eApp (g : GA) (fg : FA) : FE := fun ρ M => (fg ρ M).bind g
theorem app_go {K : Kf} {g : GA} {σ : L2.St} {H : Hp} {Q : VK} (h : teF K E (eApp g fg) σ H Q) : taF K E fg σ H (fun vs H1 => rA K E g vs H1 Q) := by
  obtain ⟨μ, Hf, Fr, ρ, M, r, s, p⟩ := h
  exact ⟨μ, Hf, Fr, ρ, M, r, s, p.split.weak fun xs μ1 Hf1 H1 M1 e1 m1 s1 p1 vs rs => ⟨μ1, Hf1, Fr, M1, xs, rs, s1, p1⟩⟩
theorem de_bi {x : Str} {p : Pos} {id : String} {g : GA} (hc : CallR X (.builtin id) (rA X.K E g)) (hg : Gl X x) (hm : X.mg x = none) (hv : bootBuiltins x = some (.builtin id)) (ha : DA X E (e :: es) fg) (hn : x ≠ "__name__" := by decide) (hdb : (x == ("__debug__" : Str)) = false := by decide)
    (he : starEach (e :: es) X.env = (false, eval e X.env) :: starEach es X.env := by rfl) (hpl : (backTo pos (starEach es X.env)).any (·.1) = false := by rfl) : DE X E (.Call (.Name x p) (e :: es) [] pos) (eApp g fg) :=
  pe_imp (pe_callB hc hg hm hv ha hn hdb he hpl) fun _ _ _ h => app_go h
theorem de_bt {x : Str} {p : Pos} {T : String} {g : GA} (hc : CallR X (.type T) (rA X.K E g)) (hg : Gl X x) (hm : X.mg x = none) (hv : bootBuiltins x = some (.type T)) (ha : DA X E (e :: es) fg) (hn : x ≠ "__name__" := by decide) (hdb : (x == ("__debug__" : Str)) = false := by decide)
    (he : starEach (e :: es) X.env = (false, eval e X.env) :: starEach es X.env := by rfl) (hpl : (backTo pos (starEach es X.env)).any (·.1) = false := by rfl) : DE X E (.Call (.Name x p) (e :: es) [] pos) (eApp g fg) :=
  pe_imp (pe_callTy hc hg hm hv ha hn hdb he hpl) fun _ _ _ h => app_go h
theorem callr_imp {f : Value} {r r' : List V → Hp → VK → Prop} (h : CallR X f r) (i : ∀ vs H Q, r' vs H Q → r vs H Q) : CallR X f r' := fun pins s σ H xs us Q I rx q => h pins s σ H xs us Q I rx (i xs H Q q)
theorem callr_or {f : Value} {r r' : List V → Hp → VK → Prop} (h : CallR X f r) (h' : CallR X f r') : CallR X f (fun xs H Q => r xs H Q ∨ r' xs H Q) := h.or h'
/-- the items of a list or a tuple -/
@[simp] def itemsD (d : D) (M : Mem) : Option (List D) := match d with
  | .lst xs => some xs
  | .scr xs => some xs
  | .loc n => match M[n]? with
    | some (some xs) => some xs
    | _ => none
  | _ => none
theorem items_of {K : Kf} {μ : List Addr} {Hf Fr H : Hp} {M : Mem} {v : V} {d : D} {ds : List D} (s : SR K μ Hf Fr H M) (r : Rep K μ Hf v d) (h : itemsD d M = some ds) : ∃ a vs, v = .ref a ∧ SqL K H a vs ∧ RepAll K μ Hf vs ds := by
  unfold itemsD at h
  split at h
  · cases h
    cases r with
    | lst q t => exact ⟨_, _, rfl, SqL.of (s.ex _ _ q), t⟩
  · cases h
    cases r with
    | scr q t => exact ⟨_, _, rfl, same_l s.ex q, t⟩
  · cases r with
    | loc q =>
      split at h
      · rename_i xs hM
        cases h
        obtain ⟨a, vs, h1, h2, h3, h4, h5⟩ := s.cell _ _ hM
        rw [q] at h1; cases h1
        exact ⟨_, _, rfl, SqL.of h4, h5⟩
      · cases h
  · cases h
@[simp] def gLen : GA := fun ds M => match ds with
  | [.str y] => if y.length ≤ lineD then .ok (.int y.length) M else .no
  | [.tup xs] => .ok (.int xs.length) M
  | [d] => match itemsD d M with
    | some xs => .ok (.int xs.length) M
    | none => .no
  | _ => .no
theorem c_len : CallR X (.builtin "len") (rA X.K E gLen) := by
  refine callr_imp call_len fun vs H Q ⟨μ, Hf, Fr, M, ds, rs, s, p⟩ => ?_
  unfold gLen at p
  split at p
  · cases rs with
    | cons r t =>
      cases r; cases t
      split at p
      · rename_i hz; exact ⟨_, _, rfl, ⟨line_le hz, rfl⟩, p.now s _ (.int _)⟩
      · exact p.elim
  · cases rs with
    | cons r t =>
      cases t
      cases r with
      | tup q t => exact ⟨_, _, rfl, .inr ⟨_, same_t s.ex q, rfl⟩, p.now s _ (by rw [t.length]; exact .int _)⟩
  · split at p
    · rename_i xs hx
      cases rs with
      | cons r t =>
        cases t
        obtain ⟨a, vs, rfl, q, t⟩ := items_of s r hx
        exact ⟨_, _, rfl, .inl ⟨_, q, rfl⟩, p.now s _ (by rw [t.length]; exact .int _)⟩
    · exact p.elim
  · exact p.elim
@[simp] def gAbs : GA := fun ds M => match ds with
  | [.int i] => .ok (.int (if i < 0 then -i else i)) M
  | _ => .no
theorem c_abs : CallR X (.builtin "abs") (rA X.K E gAbs) := by
  refine callr_imp call_abs fun vs H Q ⟨μ, Hf, Fr, M, ds, rs, s, p⟩ => ?_
  unfold gAbs at p
  split at p
  · cases rs with
    | cons r t => cases r; cases t; exact ⟨_, rfl, p.now s _ (.int _)⟩
  · exact p.elim
@[simp] def gMax : GA := fun ds M => match ds with
  | [.int i, .int j] => .ok (.int (if j > i then j else i)) M
  | _ => .no
@[simp] def gMin : GA := fun ds M => match ds with
  | [.int i, .int j] => .ok (.int (if j < i then j else i)) M
  | _ => .no
theorem c_max (hc : X.calm = true) : CallR X (.builtin "max") (rA X.K E gMax) := by
  refine callr_imp (call_max2 hc) fun vs H Q ⟨μ, Hf, Fr, M, ds, rs, s, p⟩ => ?_
  unfold gMax at p
  split at p
  · cases rs with
    | cons r t =>
      cases r
      cases t with
      | cons r t => cases r; cases t; exact ⟨_, _, rfl, p.now s _ (.int _)⟩
  · exact p.elim
theorem c_min (hc : X.calm = true) : CallR X (.builtin "min") (rA X.K E gMin) := by
  refine callr_imp (call_min2 hc) fun vs H Q ⟨μ, Hf, Fr, M, ds, rs, s, p⟩ => ?_
  unfold gMin at p
  split at p
  · cases rs with
    | cons r t =>
      cases r
      cases t with
      | cons r t => cases r; cases t; exact ⟨_, _, rfl, p.now s _ (.int _)⟩
  · exact p.elim
@[simp] def gInt : GA := fun ds M => match ds with
  | [.int i] => .ok (.int i) M
  | [.bl k] => .ok (.int (if k then 1 else 0)) M
  | _ => .no
theorem c_int : CallR X (.type "int") (rA X.K E gInt) := by
  refine callr_imp call_int1 fun vs H Q ⟨μ, Hf, Fr, M, ds, rs, s, p⟩ => ?_
  unfold gInt at p
  split at p
  · cases rs with
    | cons r t => cases r; cases t; exact .inl ⟨_, rfl, p.now s _ (.int _)⟩
  · cases rs with
    | cons r t => cases r; cases t; exact .inr ⟨_, rfl, p.now s _ (.int _)⟩
  · exact p.elim
def bls? : List D → Option (List Bool)
  | [] => some []
  | .bl b :: ds => (bls? ds).map (b :: ·)
  | _ => none
theorem bls_of : ∀ {ds : List D} {bs : List Bool}, bls? ds = some bs → ds = bs.map D.bl
  | [], bs, h => by cases h; rfl
  | .bl b :: ds, bs, h => by
    unfold bls? at h
    cases e : bls? ds with
    | none => rw [e] at h; cases h
    | some cs => rw [e] at h; cases h; rw [List.map_cons, bls_of e]
  | .non :: _, _, h => by cases h
  | .int _ :: _, _, h => by cases h
  | .str _ :: _, _, h => by cases h
  | .ty _ :: _, _, h => by cases h
  | .fn _ :: _, _, h => by cases h
  | .lst _ :: _, _, h => by cases h
  | .tup _ :: _, _, h => by cases h
  | .scr _ :: _, _, h => by cases h
  | .dct _ _ :: _, _, h => by cases h
  | .loc _ :: _, _, h => by cases h
  | .ins _ _ _ :: _, _, h => by cases h
  | .exn _ _ _ :: _, _, h => by cases h
def gAll (f : List Bool → Bool) : GA := fun ds M => match ds with
  | [.lst xs] => match bls? xs with
    | some bs => .ok (.bl (f bs)) M
    | none => .no
  | _ => .no
theorem c_all (hc : X.calm = true) : CallR X (.builtin "all") (rA X.K E (gAll fun bs => bs.all id)) := by
  refine callr_imp (cr_all hc) fun vs H Q ⟨μ, Hf, Fr, M, ds, rs, s, p⟩ => ?_
  unfold gAll at p
  split at p
  · split at p
    · rename_i bs hb
      cases rs with
      | cons r t =>
        cases t
        cases r with
        | lst q t =>
          rw [bls_of hb] at t
          exact ⟨_, bs, rfl, by rw [← t.bls]; exact SqL.of (s.ex _ _ q), p.now s _ (.bl _)⟩
    · exact p.elim
  · exact p.elim
/-- isinstance with a built-in class -/
@[simp] def tyD : D → Option String
  | .non => some "NoneType" | .bl _ => some "bool" | .int _ => some "int" | .str _ => some "str"
  | .lst _ => some "list" | .scr _ => some "list" | .tup _ => some "tuple" | .dct _ _ => some "dict" | _ => none
def tyS : List String := ["NoneType", "bool", "int", "str", "list", "tuple", "dict"]
def isiB (a b : String) : Bool := a == b || (a == "bool" && b == "int")
theorem kit_tab : ∀ a ∈ tyS, ∀ b ∈ tyS, kitB a b = some (isiB a b) := by decide +kernel
theorem tyD_mem {d : D} {t : String} (h : tyD d = some t) : t ∈ tyS := by
  cases d <;> cases h <;> decide +kernel
theorem tyD_of {K : Kf} {μ : List Addr} {Hf Fr H : Hp} {M : Mem} {v : V} {d : D} {t : String} (s : SR K μ Hf Fr H M) (r : Rep K μ Hf v d) (h : tyD d = some t) : TyX K H v (.type t) := by
  cases r with
  | non => cases h; exact .base .non
  | bl b => cases h; exact .base (.bl b)
  | int i => cases h; exact .base (.int i)
  | str x => cases h; exact .base (.str x)
  | ty n => cases h
  | fn a => cases h
  | lst q t => cases h; exact .base (.lst (s.ex _ _ q))
  | scr q t =>
    cases h
    rcases same_l s.ex q with (z | ⟨o, z⟩) | ⟨o, its, n, z, c, _⟩
    · exact .base (.lst z)
    · exact .base (.frz z)
    · exact .kList z c
  | tup q t =>
    cases h
    rcases same_t s.ex q with (z | ⟨o, z⟩) | ⟨o, its, n, z, c, _⟩
    · exact .base (.tup z)
    · exact .fTuple z
    · exact .kTuple z c
  | dct q k t => cases h; exact .base (.dK (s.ex _ _ q))
  | loc q => cases h
  | ins q k t => cases h
  | exn0 q => cases h
  | exn1 q k t => cases h
@[simp] def gIsi : GA := fun ds M => match ds with
  | [d, .ty n] => if n ∈ tyS then match tyD d with
    | some t => .ok (.bl (isiB t n)) M
    | none => .no
    else .no
  | _ => .no
end
end Den
namespace Den
open PySem PySem.Spec PyProof.Rows L2
section
variable {X : Cx} {E : XK} {a b c e o : Expr} {es rest : List Expr} {fa fb fc F : FE} {ft fu : FT} {fg : FA} {pos : Pos}
theorem c_isi : CallR X (.builtin "isinstance") (rA X.K E gIsi) := by
  refine callr_imp call_isi fun vs H Q ⟨μ, Hf, Fr, M, ds, rs, s, p⟩ => ?_
  unfold gIsi at p
  split at p
  · split at p
    · rename_i hn
      split at p
      · rename_i t ht
        cases rs with
        | cons r t2 =>
          cases t2 with
          | cons r2 t3 =>
            cases r2; cases t3
            exact ⟨_, _, _, _, _, rfl, .ty _, tyD_of s r ht, kit_ty (kit_tab _ (tyD_mem ht) _ hn), p.now s _ (.bl _)⟩
      · exact p.elim
    · exact p.elim
  · exact p.elim
/-! ### repr -/
def reprOk (y : PyData) : Bool := y.showable && !y.hasDict && decide (y.depth ≤ 60) && decide (y.shown.length ≤ lineD)
@[simp] def gRepr : GA := fun ds M => match ds with
  | [d] => match toPy d with
    | some y => if reprOk y = true then .ok (.str y.shown) M else .no
    | none => .no
  | _ => .no
theorem c_repr (hg : X.A.guards = some []) (hu : X.A.units + 64 < cLine) : CallR X (.builtin "repr") (rA X.K E gRepr) := by
  intro pins s σ H xs us Q I rv ⟨μ, Hf, Fr, M, ds, rs, sr, p⟩
  unfold gRepr at p
  split at p
  · rename_i d
    split at p
    · rename_i y hy
      split at p
      · rename_i ho
        unfold reprOk at ho
        simp only [Bool.and_eq_true, decide_eq_true_eq, Bool.not_eq_true'] at ho
        obtain ⟨⟨⟨h1, h2⟩, h3⟩, h4⟩ := ho
        cases rs with
        | cons r t =>
          cases t
          obtain ⟨u, rfl, ru⟩ := vals1 rv
          have fin : ∀ tk tk2, EP X pins σ Q (.str y.shown tk) { s with toks := tk2 } := fun tk tk2 => ⟨.str _, H, I.tok _, ⟨tk, rfl⟩, p.now sr _ (.str _)⟩
          have dp := r.dp sr.ex _ _ _ hy
          obtain ⟨as, rd⟩ := Dp.reads I y _ _ dp ru
          cases dp with
          | non => cases ru; exact PySem.P.repr_of_none (by have := fin s.toks (s.toks + 1); simpa [PyData.shown] using this)
          | bl b => cases ru; exact PySem.P.repr_of_bool (by have := fin s.toks (s.toks + 1); simpa [PyData.shown] using this)
          | int i =>
            obtain ⟨t, rfl⟩ := ru
            refine PySem.P.repr_of_int (by simpa [PyData.showable] using h1) (by have := fin s.toks (s.toks + 1); simpa [PyData.shown] using this)
          | str x =>
            obtain ⟨t, rfl⟩ := ru
            refine PySem.P.repr_of_str (by have := fin s.toks (s.toks + 1); simpa [PyData.shown] using this) (by have := line_le h4; simpa [PyData.shown] using this)
          | lst _ _ =>
            cases ru
            refine repr_of_reads' rd h1 (fun z => absurd z (by rw [h2]; decide)) hg (by omega) (fun _ _ e => e) (fun h' u tk hk => ?_) (line_le h4)
            exact ⟨.str _, H, I.kept (t' := tk) hk, ⟨u, rfl⟩, p.now sr _ (.str _)⟩
          | tup _ _ =>
            cases ru
            refine repr_of_reads' rd h1 (fun z => absurd z (by rw [h2]; decide)) hg (by omega) (fun _ _ e => e) (fun h' u tk hk => ?_) (line_le h4)
            exact ⟨.str _, H, I.kept (t' := tk) hk, ⟨u, rfl⟩, p.now sr _ (.str _)⟩
      · exact p.elim
    · exact p.elim
  · exact p.elim

/-! ### an item, a cut -/
def signs (z : Str) : List D := z.cps.toList.map fun c => D.str ⟨#[c]⟩
@[simp] def gIx : G2 := fun x y M => match x, y with
  | .tup xs, .int i => match atI xs i with
    | some d => .ok d M
    | none => .no
  | .str z, .int i => if z.length ≤ lineD then match atI z.cps.toList i with
    | some c => .ok (.str ⟨#[c]⟩) M
    | none => .no
    else .no
  | d, .int i => match itemsD d M with
    | some xs => match atI xs i with
      | some d => .ok d M
      | none => .no
    | none => .no
  | _, _ => .no
theorem atI_rep {K : Kf} {μ : List Addr} {H : Hp} {vs : List V} {ds : List D} {i : Int} {d : D} (r : RepAll K μ H vs ds) (h : atI ds i = some d) : ∃ v, atI vs i = some v ∧ Rep K μ H v d := by
  unfold atI at h ⊢
  rw [r.length]
  cases e : ixN ds.length i with
  | none => rw [e] at h; cases h
  | some j =>
    rw [e] at h
    exact r.at h
theorem ixr_imp {r r' : R2} (h : IxR X r) (i : ∀ x y H Q, r' x y H Q → r x y H Q) : IxR X r' := by
  intro z1 z2 pins s σ H x y v u Q I rx ry q
  exact h z1 z2 pins s σ H x y v u Q I rx ry (i _ _ _ _ q)
theorem x_ix : IxR X (rD2 X.K E gIx) := by
  refine ixr_imp ix_seq fun x y H Q h => ?_
  obtain ⟨μ, Hf, Fr, M, d1, d2, r1, r2, sr, p⟩ := h
  unfold gIx at p
  split at p
  · cases r2
    split at p
    · rename_i d hd
      cases r1 with
      | tup q t =>
        obtain ⟨w, h1, h2⟩ := atI_rep t hd
        exact .inr (.inl ⟨_, _, _, w, rfl, rfl, same_t sr.ex q, h1, p.now sr _ h2⟩)
    · exact p.elim
  · cases r1; cases r2
    split at p
    · rename_i hz
      split at p
      · rename_i cc hc
        exact .inr (.inr ⟨_, _, cc, rfl, rfl, line_le hz, hc, p.now sr _ (.str _)⟩)
      · exact p.elim
    · exact p.elim
  · cases r2
    split at p
    · rename_i xs hx
      split at p
      · rename_i d hd
        obtain ⟨a, vs, rfl, q, t⟩ := items_of sr r1 hx
        obtain ⟨w, h1, h2⟩ := atI_rep t hd
        exact .inl ⟨_, _, _, w, rfl, rfl, q, h1, p.now sr _ h2⟩
      · exact p.elim
    · exact p.elim
  · exact p.elim
theorem de_ix (ha : DE X E a fa) (hb : DE X E b fb) (hs : PlainIx b := by exact fun _ _ => rfl) : DE X E (.Subscript a b pos) (eTwo gIx fa fb) :=
  pe_imp (pe_ix x_ix ha hb hs) fun _ _ _ h => two_go h
abbrev FO := Ro → Mem → Out (Option Int)
def toF (K : Kf) (E : XK) (F : FO) : TO := fun σ H Q => ∃ μ Hf Fr ρ M, ERep K μ Hf σ ρ ∧ SR K μ Hf Fr H M ∧ Post K E (F ρ M) μ Hf Fr (fun i _ _ H' _ => Q i H')
abbrev DO (X : Cx) (E : XK) (e : Option Expr) (F : FO) : Prop := PO X e (toF X.K E F)
theorem po_imp {eo : Option Expr} {t t' : TO} (h : PO X eo t) (i : ∀ σ H Q, t' σ H Q → t σ H Q) : PO X eo t' := ⟨fun pins s σ H Q I q => h.run pins s σ H Q I (i σ H Q q)⟩
@[simp] def oNo : FO := fun _ M => .ok none M
@[simp] def oSo (F : FE) : FO := fun ρ M => (F ρ M).bind fun d M1 => match d with
  | .int i => .ok (some i) M1
  | _ => .no
theorem do_none : DO X E none oNo := po_imp po_none fun σ H Q ⟨μ, Hf, Fr, ρ, M, r, s, p⟩ => p.now s
theorem do_some (h : DE X E e F) : DO X E (some e) (oSo F) := by
  refine po_imp (po_some h) fun σ H Q ⟨μ, Hf, Fr, ρ, M, r, s, p⟩ => ?_
  refine ⟨μ, Hf, Fr, ρ, M, r, s, p.split.weak fun d μ1 Hf1 H1 M1 e1 m1 s1 p1 v r1 => ?_⟩
  split at p1
  · cases r1; exact ⟨_, rfl, p1.now s1⟩
  · exact p1.elim
def cutD {α : Type} (xs : List α) (lo hi : Option Int) : List α := (xs.drop (HT.sIx xs.length 0 lo)).take (HT.sIx xs.length xs.length hi - HT.sIx xs.length 0 lo)
theorem cut_rep {K : Kf} {μ : List Addr} {H : Hp} {vs : List V} {ds : List D} {lo hi : Option Int} (r : RepAll K μ H vs ds) : RepAll K μ H (cutV vs lo hi) (cutD ds lo hi) := by
  unfold cutV cutD
  rw [r.length]
  exact (r.drop _).take _
@[simp] def gCut (x : D) (lo hi : Option Int) : Mem → Out D := fun M => match x with
  | .str z => if z.length ≤ lineD then .ok (.str (cutS z lo hi)) M else .no
  | .tup xs => .ok (.tup (cutD xs lo hi)) M
  | d => match itemsD d M with
    | some xs => .ok (.lst (cutD xs lo hi)) M
    | none => .no
@[simp] def eCut (F : FE) (f g : FO) : FE := fun ρ M => (F ρ M).bind fun x M1 => (f ρ M1).bind fun lo M2 => (g ρ M2).bind fun hi M3 => gCut x lo hi M3
def rCut (K : Kf) (E : XK) : V → Option Int → Option Int → Hp → VK → Prop := fun x lo hi H Q => ∃ μ Hf Fr M d, Rep K μ Hf x d ∧ SR K μ Hf Fr H M ∧ Post K E (gCut d lo hi M) μ Hf Fr (kD K Q)
theorem cut_whole {α : Type} (xs : List α) (lo hi : Option Int) (h : HT.sIx xs.length 0 lo = 0 ∧ HT.sIx xs.length xs.length hi = xs.length) : cutD xs lo hi = xs := by
  unfold cutD
  rw [h.1, h.2, List.drop_zero, Nat.sub_zero, List.take_length]
theorem s_cut : SlR X (rCut X.K E) := by
  intro pins s σ H x v vl vu lo hi sl Q I rx hs pl pu h
  refine (sl_list.or (sl_tupA.or sl_str)) pins s σ H x v vl vu lo hi sl Q I rx hs pl pu ?_
  obtain ⟨μ, Hf, Fr, M, d, r, sr, p⟩ := h
  unfold gCut at p
  split at p
  · cases r
    split at p
    · rename_i hz; exact .inr (.inr ⟨_, rfl, line_le hz, p.now sr _ (.str _)⟩)
    · exact p.elim
  · cases r with
    | tup q t =>
      refine .inr (.inl ⟨_, _, rfl, same_t sr.ex q, fun hw => ?_, fun _ l hl => ?_⟩)
      · rw [t.length] at hw
        refine p.now sr _ ?_
        rw [cut_whole _ _ _ hw]
        exact .tup q t
      · exact p.new sr hl fun e => rep_tup (cut_rep t) e
  · split at p
    · rename_i xs hx
      obtain ⟨a, vs, rfl, q, t⟩ := items_of sr r hx
      exact .inl ⟨_, _, rfl, q, fun l hl => p.new sr hl fun e => rep_lst (cut_rep t) e⟩
    · exact p.elim
theorem de_cut {p2 : Pos} {lo hi : Option Expr} {fl fh : FO} (he : DE X E e F) (hl : DO X E lo fl) (hu : DO X E hi fh) : DE X E (.Subscript e (.Slice lo hi none p2) pos) (eCut F fl fh) := by
  refine pe_imp (pe_slice (s_cut (E := E)) he hl hu) fun σ H Q ⟨μ, Hf, Fr, ρ, M, r, s, p⟩ => ?_
  refine ⟨μ, Hf, Fr, ρ, M, r, s, p.split.weak fun x μ1 Hf1 H1 M1 e1 m1 s1 p1 v1 r1 => ?_⟩
  refine ⟨μ1, Hf1, Fr, ρ, M1, r.mono e1 m1, s1, p1.split.weak fun lo μ2 Hf2 H2 M2 e2 m2 s2 p2 => ?_⟩
  refine ⟨μ2, Hf2, Fr, ρ, M2, (r.mono e1 m1).mono e2 m2, s2, p2.split.weak fun hi μ3 Hf3 H3 M3 e3 m3 s3 p3 => ?_⟩
  exact ⟨μ3, Hf3, Fr, M3, x, Rep.mono e3 m3 _ _ (Rep.mono e2 m2 _ _ r1), s3, p3⟩

/-! ### methods of built-in values -/
def strs? : List D → Option (List Str)
  | [] => some []
  | .str b :: ds => (strs? ds).map (b :: ·)
  | _ => none
theorem strs_of : ∀ {ds : List D} {bs : List Str}, strs? ds = some bs → ds = bs.map D.str
  | [], bs, h => by cases h; rfl
  | .str b :: ds, bs, h => by
    unfold strs? at h
    cases e : strs? ds with
    | none => rw [e] at h; cases h
    | some cs => rw [e] at h; cases h; rw [List.map_cons, strs_of e]
  | .non :: _, _, h => by cases h
  | .int _ :: _, _, h => by cases h
  | .bl _ :: _, _, h => by cases h
  | .ty _ :: _, _, h => by cases h
  | .fn _ :: _, _, h => by cases h
  | .lst _ :: _, _, h => by cases h
  | .tup _ :: _, _, h => by cases h
  | .scr _ :: _, _, h => by cases h
  | .dct _ _ :: _, _, h => by cases h
  | .loc _ :: _, _, h => by cases h
  | .ins _ _ _ :: _, _, h => by cases h
  | .exn _ _ _ :: _, _, h => by cases h
@[simp] def gJoin : G2 := fun x y M => match x with
  | .str a => match itemsD y M with
    | some xs => match strs? xs with
      | some ys => if (ys.map (·.length)).sum + ys.length * a.length ≤ lineD then .ok (.str (Txt.join a ys)) M else .no
      | none => .no
    | none => .no
  | _ => .no
theorem de_join {apos : Pos} (ho : DE X E o fa) (he : DE X E e fb) (hs : starEach [e] X.env = [(false, eval e X.env)] := by rfl) (hbase : attributeBase o "join" X.env (eval o X.env) = eval o X.env := by rfl) (hline : (apos.endLine == pos.line) = true := by rfl) :
    DE X E (.Call (.Attribute o "join" apos) [e] [] pos) (fun ρ M => (fa ρ M).bind fun x M1 => match x with
      | .str _ => (fb ρ M1).bind fun y M2 => gJoin x y M2
      | _ => .no) := by
  refine pe_imp (pe_join ho he hs hbase hline) fun σ H Q ⟨μ, Hf, Fr, ρ, M, r, s, p⟩ => ?_
  refine ⟨μ, Hf, Fr, ρ, M, r, s, p.split.weak fun x μ1 Hf1 H1 M1 e1 m1 s1 p1 v1 r1 => ?_⟩
  split at p1
  · cases r1
    refine ⟨⟨_, rfl⟩, μ1, Hf1, Fr, ρ, M1, r.mono e1 m1, s1, p1.split.weak fun y μ2 Hf2 H2 M2 e2 m2 s2 p2 v2 r2 => ?_⟩
    unfold gJoin at p2
    dsimp only at p2
    split at p2
    · rename_i xs hx
      split at p2
      · rename_i ys hy
        split at p2
        · rename_i hz
          obtain ⟨a, vs, rfl, q, t⟩ := items_of s2 r2 hx
          rw [strs_of hy] at t
          have e3 := t.strs
          subst e3
          exact ⟨_, _, ys, rfl, rfl, .inl q, Nat.le_trans hz (by rw [lineD_eq]; decide), p2.now s2 _ (.str _)⟩
        · exact p2.elim
      · exact p2.elim
    · exact p2.elim
  · exact p1.elim
end
end Den
namespace Den
open PySem PySem.Spec PyProof.Rows L2
section
variable {X : Cx} {E : XK} {a b c e o : Expr} {es rest : List Expr} {fa fb fc F : FE} {ft fu : FT} {fg : FA} {pos : Pos}
/-! ### comparisons of numbers or of texts; in, not in -/
@[simp] def gOrd (p : Int → Int → Bool) (q : List Nat → List Nat → Bool) : G2 := fun x y M => match x, y with
  | .int i, .int j => .ok (.bl (p i j)) M
  | .str i, .str j => .ok (.bl (q i.cps.toList j.cps.toList)) M
  | _, _ => .no
theorem ord_go {p : Int → Int → Bool} {q : List Nat → List Nat → Bool} {x y : V} {H : Hp} {Q : VK} (h : rD2 X.K E (gOrd p q) x y H Q) :
    rI0 (fun i j => .bl (p i j)) x y H Q ∨ (∃ i j, x = .str i ∧ y = .str j ∧ Q (.bl (q i.cps.toList j.cps.toList)) H) := by
  obtain ⟨μ, Hf, Fr, M, d1, d2, r1, r2, s, z⟩ := h
  unfold gOrd at z
  split at z
  · cases r1; cases r2; exact .inl ⟨_, _, rfl, rfl, z.now s _ (.bl _)⟩
  · cases r1; cases r2; exact .inr ⟨_, _, rfl, rfl, z.now s _ (.bl _)⟩
  · exact z.elim
def gLt' : G2 := gOrd (fun i j => decide (i < j)) fun i j => decide (i < j)
@[simp] theorem gLt'_ap (x y : D) (M : Mem) : gLt' x y M = (gOrd (fun i j => decide (i < j)) fun i j => decide (i < j)) x y M := rfl
def gLe' : G2 := gOrd (fun i j => decide (i ≤ j)) fun i j => !decide (j < i)
@[simp] theorem gLe'_ap (x y : D) (M : Mem) : gLe' x y M = (gOrd (fun i j => decide (i ≤ j)) fun i j => !decide (j < i)) x y M := rfl
theorem o_lt : OpR X (compareOp .Lt) (rD2 X.K E gLt') := opr_imp (op_lt.or op_lt_str) fun _ _ _ _ h => ord_go h
theorem o_le : OpR X (compareOp .LtE) (rD2 X.K E gLe') := opr_imp (op_le.or op_le_str) fun _ _ _ _ h => ord_go h
@[simp] def toV : D → Option V
  | .non => some .non | .bl b => some (.bl b) | .int i => some (.int i) | .str x => some (.str x) | _ => none
@[simp] def toVs : List D → Option (List V)
  | [] => some []
  | d :: ds => match toV d, toVs ds with
    | some v, some vs => some (v :: vs)
    | _, _ => none
theorem toV_of {K : Kf} {μ : List Addr} {H : Hp} {v w : V} {d : D} (r : Rep K μ H v d) (h : toV d = some w) : v = w ∧ flatV w = true := by
  cases d <;> cases h <;> cases r <;> exact ⟨rfl, rfl⟩
theorem toVs_of {K : Kf} {μ : List Addr} {H : Hp} : ∀ {vs : List V} {ds : List D} {ws : List V}, RepAll K μ H vs ds → toVs ds = some ws → vs = ws ∧ ws.all flatV = true
  | _, [], ws, r, h => by cases r; cases h; exact ⟨rfl, rfl⟩
  | _, d :: ds, ws, r, h => by
    cases r with
    | cons r t =>
      unfold toVs at h
      cases h1 : toV d with
      | none => rw [h1] at h; cases h
      | some w =>
        cases h2 : toVs ds with
        | none => rw [h1, h2] at h; cases h
        | some us =>
          rw [h1, h2] at h; cases h
          obtain ⟨e1, f1⟩ := toV_of r h1
          obtain ⟨e2, f2⟩ := toVs_of t h2
          exact ⟨by rw [e1, e2], by rw [List.all_cons, f1, f2]; rfl⟩
@[simp] def gInS (f : Bool → Bool) : G2 := fun x y M => match x, y with
  | .str i, .str j => match i.cps.toList with
    | [c] => .ok (.bl (f (decide (c ∈ j.cps.toList)))) M
    | _ => .ok (.bl (f (!(Builtin.Str.occurrences j i 0 j.length 1).isEmpty))) M
  | d, .tup xs => match toV d, toVs xs with
    | some v, some vs => .ok (.bl (f (inV v vs))) M
    | _, _ => .no
  | d, l => match itemsD l M with
    | some xs => match toV d, toVs xs with
      | some v, some vs => .ok (.bl (f (inV v vs))) M
      | _, _ => .no
    | none => .no
theorem str_one {i : Str} {c : Nat} (h : i.cps.toList = [c]) : i = ⟨#[c]⟩ := by
  cases i with
  | mk a => cases a with
    | mk l => cases h; rfl
theorem o_in : OpR X (compareOp .In) (rD2 X.K E (gInS fun b => b)) := by
  refine opr_imp (op_in_sign.or (op_in_str.or op_in_seq)) fun x y H Q ⟨μ, Hf, Fr, M, d1, d2, r1, r2, s, p⟩ => ?_
  unfold gInS at p
  split at p
  · cases r1; cases r2
    split at p
    · rename_i c hc
      exact .inl ⟨c, _, by rw [str_one hc], rfl, p.now s _ (.bl _)⟩
    · exact .inr (.inl ⟨_, _, rfl, rfl, p.now s _ (.bl _)⟩)
  · split at p
    · rename_i v vs h1 h2
      cases r2 with
      | tup q t =>
        obtain ⟨e1, f1⟩ := toV_of r1 h1
        obtain ⟨e2, f2⟩ := toVs_of t h2
        subst e1; subst e2
        exact .inr (.inr ⟨_, _, rfl, .inr (same_t s.ex q), f1, f2, p.now s _ (.bl _)⟩)
    · exact p.elim
  · split at p
    · rename_i xs hx
      split at p
      · rename_i v vs h1 h2
        obtain ⟨a, us, rfl, q, t⟩ := items_of s r2 hx
        obtain ⟨e1, f1⟩ := toV_of r1 h1
        obtain ⟨e2, f2⟩ := toVs_of t h2
        subst e1; subst e2
        exact .inr (.inr ⟨_, _, rfl, .inl q, f1, f2, p.now s _ (.bl _)⟩)
      · exact p.elim
    · exact p.elim
theorem o_notIn : OpR X (compareOp .NotIn) (rD2 X.K E (gInS fun b => !b)) := by
  refine opr_imp (op_notIn_sign.or (op_notin_str.or op_notIn_seq)) fun x y H Q ⟨μ, Hf, Fr, M, d1, d2, r1, r2, s, p⟩ => ?_
  unfold gInS at p
  split at p
  · cases r1; cases r2
    split at p
    · rename_i c hc
      exact .inl ⟨c, _, by rw [str_one hc], rfl, p.now s _ (.bl _)⟩
    · exact .inr (.inl ⟨_, _, rfl, rfl, p.now s _ (.bl _)⟩)
  · split at p
    · rename_i v vs h1 h2
      cases r2 with
      | tup q t =>
        obtain ⟨e1, f1⟩ := toV_of r1 h1
        obtain ⟨e2, f2⟩ := toVs_of t h2
        subst e1; subst e2
        exact .inr (.inr ⟨_, _, rfl, .inr (same_t s.ex q), f1, f2, p.now s _ (.bl _)⟩)
    · exact p.elim
  · split at p
    · rename_i xs hx
      split at p
      · rename_i v vs h1 h2
        obtain ⟨a, us, rfl, q, t⟩ := items_of s r2 hx
        obtain ⟨e1, f1⟩ := toV_of r1 h1
        obtain ⟨e2, f2⟩ := toVs_of t h2
        subst e1; subst e2
        exact .inr (.inr ⟨_, _, rfl, .inl q, f1, f2, p.now s _ (.bl _)⟩)
      · exact p.elim
    · exact p.elim
/-- is True, is None -/
@[simp] def isNon : D → Bool
  | .non => true
  | _ => false
@[simp] def gIs (f : Bool → Bool) : G2 := fun x y M => match y with
  | .non => .ok (.bl (f (isNon x))) M
  | _ => .no
theorem rep_non {K : Kf} {μ : List Addr} {H : Hp} {v : V} {d : D} (r : Rep K μ H v d) : decide (v = .non) = isNon d := by
  cases r <;> simp [isNon]
theorem o_is : OpR X (compareOp .Is) (rD2 X.K E (gIs fun b => b)) := by
  refine opr_imp op_isN fun x y H Q ⟨μ, Hf, Fr, M, d1, d2, r1, r2, s, p⟩ => ?_
  unfold gIs at p
  split at p
  · cases r2; exact ⟨rfl, by rw [rep_non r1]; exact p.now s _ (.bl _)⟩
  · exact p.elim
theorem o_isnot : OpR X (compareOp .IsNot) (rD2 X.K E (gIs fun b => !b)) := by
  refine opr_imp op_notN fun x y H Q ⟨μ, Hf, Fr, M, d1, d2, r1, r2, s, p⟩ => ?_
  unfold gIs at p
  split at p
  · cases r2; exact ⟨rfl, by rw [rep_non r1]; exact p.now s _ (.bl _)⟩
  · exact p.elim

/-! ### targets -/
abbrev TgD := D → Ro → Option Ro
def tgF (K : Kf) (g : TgD) (sl : List Nat) : TG := fun v σ H Q => ∃ μ Hf ρ d ρ', Same Hf H ∧ ERep K μ Hf σ ρ ∧ Rep K μ Hf v d ∧ g d ρ = some ρ' ∧
  ∀ σ', ERep K μ Hf σ' ρ' → σ'.length = σ.length → (∀ j, j ∉ sl → σ'[j]? = σ[j]?) → Q σ' H
abbrev DG (X : Cx) (tg : Expr) (g : TgD) (sl : List Nat) : Prop := PG X tg (tgF X.K g sl)
theorem pg_imp {tg : Expr} {t t' : TG} (h : PG X tg t) (i : ∀ v σ H Q, t' v σ H Q → t v σ H Q) : PG X tg t' := ⟨fun pins s σ H v u Q I r q => h.run pins s σ H v u Q I r (i v σ H Q q)⟩
@[simp] def gNm (i : Nat) : TgD := fun d ρ => some (ρ.set i (some d))
theorem dg_name {i : Nat} {tg : Expr} (h : PG X tg (gName i)) : DG X tg (gNm i) [i] := by
  refine pg_imp h fun v σ H Q ⟨μ, Hf, ρ, d, ρ', e, r, rv, hg, k⟩ => ?_
  cases hg
  exact k _ (r.put i rv) (by rw [List.length_set]) fun j hj => by rw [List.getElem?_set_ne (fun z => hj (by simp [z]))]
/-- several names at once -/
@[simp] def gNms : List Nat → List D → Ro → Option Ro
  | [], [], ρ => some ρ
  | i :: is, d :: ds, ρ => gNms is ds (ρ.set i (some d))
  | _, _, _ => none
@[simp] def gTp (is : List Nat) : TgD := fun d ρ => match d with
  | .tup xs => gNms is xs ρ
  | _ => none
inductive DGs (X : Cx) : List Expr → List Nat → Prop
  | nil : DGs X [] []
  | cons {e : Expr} {es : List Expr} {i : Nat} {is : List Nat} : PG X e (gName i) → (assignEach (e :: es) X.env).map (·.2) = assign e X.env :: (assignEach es X.env).map (·.2) → DGs X es is → DGs X (e :: es) (i :: is)
def gAllT : List Nat → TGs
  | [] => gNil
  | i :: is => gCons (gName i) (gAllT is)
theorem DGs.pgs : ∀ {es : List Expr} {is : List Nat}, DGs X es is → PGs X es (gAllT is)
  | _, _, .nil => pgs_nil
  | _, _, .cons h hs t => pgs_cons h t.pgs hs
theorem gNms_go {K : Kf} {μ : List Addr} {Hf H : Hp} : ∀ (is : List Nat) {ds : List D} {vs : List V} {ρ ρ' : Ro} {σ : L2.St} {Q : L2.St → Hp → Prop}, RepAll K μ Hf vs ds → ERep K μ Hf σ ρ → gNms is ds ρ = some ρ' →
    (∀ σ', ERep K μ Hf σ' ρ' → σ'.length = σ.length → (∀ j, j ∉ is → σ'[j]? = σ[j]?) → Q σ' H) → gAllT is vs σ H Q
  | [], [], _, ρ, ρ', σ, Q, rv, r, h, k => by
    cases rv; cases h
    exact ⟨rfl, k σ r rfl fun _ _ => rfl⟩
  | i :: is, d :: ds, _, ρ, ρ', σ, Q, rv, r, h, k => by
    cases rv with
    | cons r1 rt =>
      refine ⟨_, _, rfl, ?_⟩
      refine gNms_go is rt (r.put i r1) h fun σ' r' hl hj => ?_
      refine k σ' r' (by rw [hl, List.length_set]) fun j hn => ?_
      rw [hj j fun z => hn (List.mem_cons_of_mem _ z), List.getElem?_set_ne fun z => hn (by simp [z])]
  | [], _ :: _, _, _, _, _, _, _, _, h, _ => by cases h
  | _ :: _, [], _, _, _, _, _, _, _, h, _ => by cases h
theorem gNms_len : ∀ {is : List Nat} {ds : List D} {ρ ρ' : Ro}, gNms is ds ρ = some ρ' → ds.length = is.length
  | [], [], _, _, _ => rfl
  | _ :: is, _ :: ds, ρ, ρ', h => congrArg Nat.succ (gNms_len (is := is) h)
  | [], _ :: _, _, _, h => by cases h
  | _ :: _, [], _, _, h => by cases h
theorem dg_tup {k : Nat} {is : List Nat} (hc : X.calm = true) (h : DGs X es is) (hn : (assignEach es X.env).length = is.length := by rfl) (hst : (assignEach es X.env).findIdx? (·.1) = none := by rfl) : DG X (.Tuple es k pos) (gTp is) is := by
  refine pg_imp (pg_tup hc h.pgs hn hst) fun v σ H Q ⟨μ, Hf, ρ, d, ρ', e, r, rv, hg, k⟩ => ?_
  unfold gTp at hg
  split at hg
  · cases rv with
    | tup q t => exact ⟨_, _, rfl, same_t e q, by rw [t.length]; exact gNms_len hg, gNms_go is t r hg k⟩
  · cases hg

/-! ### what is walked -/
def WalkD (K : Kf) (μ : List Addr) (Hf : Hp) (J : It) (xs : List D) : Prop :=
  (∀ i H, i < xs.length → Same Hf H → J.go i H) ∧ (∀ H, Same Hf H → J.stop xs.length H) ∧
    ∀ i μ1 Hf1 Fr H M v H', i < xs.length → Same Hf Hf1 → μ <+: μ1 → SR K μ1 Hf1 Fr H M → J.yld i H v H' → ∃ Hf2 d, Same Hf1 Hf2 ∧ SR K μ1 Hf2 Fr H' M ∧ xs[i]? = some d ∧ Rep K μ1 Hf2 v d
abbrev FI := Ro → Mem → Out (List D)
abbrev kI (K : Kf) (R : It → Hp → Prop) : List D → List Addr → Hp → Hp → Mem → Prop := fun xs μ' Hf' H' _ => ∀ J, WalkD K μ' Hf' J xs → R J H'
def tiF (K : Kf) (E : XK) (F : FI) : TI := fun σ H R => ∃ μ Hf Fr ρ M, ERep K μ Hf σ ρ ∧ SR K μ Hf Fr H M ∧ Post K E (F ρ M) μ Hf Fr (kI K R)
abbrev DI (X : Cx) (E : XK) (tg e : Expr) (F : FI) : Prop := PI X tg e (tiF X.K E F)
theorem pi_imp {tg : Expr} {t t' : TI} (h : PI X tg e t) (i : ∀ σ H Q, t' σ H Q → t σ H Q) : PI X tg e t' := ⟨fun pins s σ H R I q => h.run pins s σ H R I (i σ H R q)⟩
theorem pi_or {tg : Expr} {t t' : TI} (h : PI X tg e t) (h' : PI X tg e t') : PI X tg e (fun σ H R => t σ H R ∨ t' σ H R) := ⟨fun pins s σ H R I q => q.elim (h.run pins s σ H R I) (h'.run pins s σ H R I)⟩
def rangeD (lo hi : Int) : List D := (List.range (hi - lo).toNat).map fun (i : Nat) => D.int (lo + (i : Int))
theorem rangeD_len (lo hi : Int) : (rangeD lo hi).length = (hi - lo).toNat := by unfold rangeD; simp
theorem walk_rg {K : Kf} {μ : List Addr} {Hf : Hp} {lo hi : Int} {n : Nat} (hn : n = (hi - lo).toNat) : WalkD K μ Hf (Itr lo n) (rangeD lo hi) := by
  subst hn
  refine ⟨fun i H hi _ => by rw [rangeD_len] at hi; exact hi, fun H _ => by rw [rangeD_len]; exact Nat.le_refl _, fun i μ1 Hf1 Fr H M v H' hi e m s y => ?_⟩
  obtain ⟨rfl, rfl⟩ := y
  rw [rangeD_len] at hi
  exact ⟨Hf1, .int (lo + i), Same.refl _, s, by unfold rangeD; simp [hi], .int _⟩
@[simp] def gRg1 : List D → Mem → Out (List D) := fun ds M => match ds with
  | [.int n] => if -1000000000 ≤ n ∧ n ≤ 1000000000 then .ok (rangeD 0 n) M else .no
  | _ => .no
@[simp] def gRg2 : List D → Mem → Out (List D) := fun ds M => match ds with
  | [.int m, .int n] => if (-1000000000 ≤ m ∧ m ≤ 1000000000) ∧ -1000000000 ≤ n ∧ n ≤ 1000000000 then .ok (rangeD m n) M else .no
  | _ => .no
@[simp] def iRg1 (fg : FA) : FI := fun ρ M => (fg ρ M).bind gRg1
@[simp] def iRg2 (fg : FA) : FI := fun ρ M => (fg ρ M).bind gRg2
theorem di_range1 {tg : Expr} {p : Pos} (hg : Gl X "range") (hm : X.mg "range" = none) (ha : DA X E [a] fg) (hs : starEach [a] X.env = [(false, eval a X.env)] := by rfl) : DI X E tg (.Call (.Name "range" p) [a] [] pos) (iRg1 fg) := by
  refine pi_imp (pi_range1 hg hm ha hs) fun σ H Q ⟨μ, Hf, Fr, ρ, M, r, s, p⟩ => ?_
  refine ⟨μ, Hf, Fr, ρ, M, r, s, p.split.weak fun ds μ1 Hf1 H1 M1 e1 m1 s1 p1 vs rs => ?_⟩
  unfold gRg1 at p1
  split at p1
  · split at p1
    · rename_i n hz
      cases rs with
      | cons r1 t =>
        cases r1; cases t
        exact ⟨_, rfl, by omega, by omega, p1.now s1 _ (walk_rg (by rw [Int.sub_zero]))⟩
    · exact p1.elim
  · exact p1.elim
theorem di_range2 {tg : Expr} {p : Pos} (hg : Gl X "range") (hm : X.mg "range" = none) (ha : DA X E [a, b] fg) (hs : starEach [a, b] X.env = [(false, eval a X.env), (false, eval b X.env)] := by rfl) (hs2 : starEach [b] X.env = [(false, eval b X.env)] := by rfl) :
    DI X E tg (.Call (.Name "range" p) [a, b] [] pos) (iRg2 fg) := by
  refine pi_imp (pi_range2 hg hm ha hs hs2) fun σ H Q ⟨μ, Hf, Fr, ρ, M, r, s, p⟩ => ?_
  refine ⟨μ, Hf, Fr, ρ, M, r, s, p.split.weak fun ds μ1 Hf1 H1 M1 e1 m1 s1 p1 vs rs => ?_⟩
  unfold gRg2 at p1
  split at p1
  · split at p1
    · rename_i m n hz
      cases rs with
      | cons r1 t => cases t with
        | cons r2 t =>
          cases r1; cases r2; cases t
          exact ⟨_, _, rfl, ⟨by omega, by omega, by omega, by omega⟩, p1.now s1 _ (walk_rg rfl)⟩
    · exact p1.elim
  · exact p1.elim
/-- a list, a tuple, a text -/
@[simp] def itD (d : D) (M : Mem) : Out (List D) := match d with
  | .str z => .ok (signs z) M
  | .tup xs => .ok xs M
  | .lst xs => .ok xs M
  | .scr xs => .ok xs M
  | _ => .no
@[simp] def iVal (F : FE) : FI := fun ρ M => (F ρ M).bind itD
theorem walk_sl {K : Kf} {μ : List Addr} {Hf : Hp} {a : Addr} {vs : List V} {xs : List D} (q : SqL K Hf a vs) (t : RepAll K μ Hf vs xs) : WalkD K μ Hf (Itl K a) xs := by
  refine ⟨fun i H hi e => ?_, fun H e => ⟨vs, same_l e q, by rw [t.length]; exact Nat.le_refl _⟩, fun i μ1 Hf1 Fr H M v H' hi e m s y => ?_⟩
  · obtain ⟨v, h1, _⟩ := t.at (i := i) (d := xs[i]) (by simp [hi])
    exact ⟨vs, v, same_l e q, h1⟩
  · obtain ⟨rfl, y⟩ := y
    have h := y vs (same_l (e.trans s.ex) q)
    obtain ⟨d, h1, h2⟩ := t.atV h
    exact ⟨Hf1, d, Same.refl _, s, h1, Rep.mono e m _ _ h2⟩
theorem walk_st {K : Kf} {μ : List Addr} {Hf : Hp} {a : Addr} {vs : List V} {xs : List D} (q : SqT K Hf a vs) (t : RepAll K μ Hf vs xs) : WalkD K μ Hf (Itt K a) xs := by
  refine ⟨fun i H hi e => ?_, fun H e => ⟨vs, same_t e q, by rw [t.length]; exact Nat.le_refl _⟩, fun i μ1 Hf1 Fr H M v H' hi e m s y => ?_⟩
  · obtain ⟨v, h1, _⟩ := t.at (i := i) (d := xs[i]) (by simp [hi])
    exact ⟨vs, v, same_t e q, h1⟩
  · obtain ⟨rfl, y⟩ := y
    have h := y vs (same_t (e.trans s.ex) q)
    obtain ⟨d, h1, h2⟩ := t.atV h
    exact ⟨Hf1, d, Same.refl _, s, h1, Rep.mono e m _ _ h2⟩
theorem walk_ss {K : Kf} {μ : List Addr} {Hf : Hp} {z : Str} : WalkD K μ Hf (Its z) (signs z) := by
  have hl : (signs z).length = z.cps.size := by unfold signs; simp
  refine ⟨fun i H hi e => by rw [hl] at hi; exact hi, fun H e => by rw [hl]; exact Nat.le_refl _, fun i μ1 Hf1 Fr H M v H' hi e m s y => ?_⟩
  obtain ⟨rfl, c, hc, rfl⟩ := y
  refine ⟨Hf1, .str ⟨#[c]⟩, Same.refl _, s, ?_, .str _⟩
  unfold signs
  rw [List.getElem?_map, Array.getElem?_toList, hc]
  rfl
theorem di_val {tg : Expr} (h : DE X E e F) : DI X E tg e (iVal F) := by
  refine pi_imp (pi_or (pi_list h) (pi_or (pi_tup h) (pi_str h))) fun σ H Q ⟨μ, Hf, Fr, ρ, M, r, s, p⟩ => ?_
  have p' := p.split
  cases hF : F ρ M with
  | no => rw [hF] at p'; exact p'.elim
  | exc x M1 =>
    rw [hF] at p'
    exact .inl ⟨μ, Hf, Fr, ρ, M, r, s, by rw [hF]; exact p'⟩
  | ok d M1 =>
    rw [hF] at p'
    have up : ∀ {k : D → List Addr → Hp → Hp → Mem → Prop}, Post X.K E (.ok d M1) μ Hf Fr k → Post X.K E (F ρ M) μ Hf Fr k := fun q => by rw [hF]; exact q
    cases d with
    | str z => exact .inr (.inr ⟨μ, Hf, Fr, ρ, M, r, s, up fun H' Hf' μ' e m s' v rv => by cases rv; exact ⟨_, rfl, (p' H' Hf' μ' e m s').now s' _ walk_ss⟩⟩)
    | tup xs =>
      refine .inr (.inl ⟨μ, Hf, Fr, ρ, M, r, s, up fun H' Hf' μ' e m s' v rv => ?_⟩)
      cases rv with
      | tup q t => exact ⟨_, rfl, ⟨_, same_t s'.ex q⟩, (p' H' Hf' μ' e m s').now s' _ (walk_st q t)⟩
    | lst xs =>
      refine .inl ⟨μ, Hf, Fr, ρ, M, r, s, up fun H' Hf' μ' e m s' v rv => ?_⟩
      cases rv with
      | lst q t => exact ⟨_, rfl, ⟨_, SqL.of (s'.ex _ _ q)⟩, (p' H' Hf' μ' e m s').now s' _ (walk_sl (SqL.of q) t)⟩
    | scr xs =>
      refine .inl ⟨μ, Hf, Fr, ρ, M, r, s, up fun H' Hf' μ' e m s' v rv => ?_⟩
      cases rv with
      | scr q t => exact ⟨_, rfl, ⟨_, same_l s'.ex q⟩, (p' H' Hf' μ' e m s').now s' _ (walk_sl q t)⟩
    | _ => exact .inl ⟨μ, Hf, Fr, ρ, M, r, s, up fun H' Hf' μ' e m s' v rv => (p' H' Hf' μ' e m s').elim⟩
end
end Den
namespace Den
open PySem PySem.Spec PyProof.Rows L2
section
variable {X : Cx} {E : XK} {a b c e o : Expr} {es rest : List Expr} {fa fb fc F : FE} {ft fu : FT} {fg : FA} {pos : Pos} {st : Stmt} {sts : List Stmt} {fs gs : FS} {fi : FI}
/-! ### statements -/
@[simp] def sNx : FS := fun ρ M => .ok (.nx ρ) M
/-- what comes behind a statement that goes on -/
@[simp] def Out.then (o : Out Fl) (g : FS) : Out Fl := o.bind fun f M => match f with
  | .nx ρ => g ρ M
  | f => .ok f M
@[simp] def sSeq (f g : FS) : FS := fun ρ M => (f ρ M).then g
theorem ds_nil : DSs X E [] sNx := pss_imp pss_nil fun N σ H ⟨μ, Hf, Fr, ρ, M, r, s, p⟩ => p.now s σ r
theorem ds_cons (h1 : DS X E st fs) (h2 : DSs X E sts gs) : DSs X E (st :: sts) (sSeq fs gs) := by
  refine pss_imp (pss_cons h1 h2) fun N σ H ⟨μ, Hf, Fr, ρ, M, r, s, p⟩ => ?_
  refine ⟨μ, Hf, Fr, ρ, M, r, s, p.split.weak fun f μ1 Hf1 H1 M1 e1 m1 s1 p1 => ?_⟩
  cases f with
  | nx ρ1 => exact fun σ1 r1 => ⟨μ1, Hf1, Fr, ρ1, M1, r1, s1, p1⟩
  | rt d => exact fun v rv => p1.now s1 v rv
  | bk ρ1 => exact fun σ1 r1 => p1.now s1 σ1 r1
  | ct ρ1 => exact fun σ1 r1 => p1.now s1 σ1 r1
theorem ds_one (h1 : DS X E st fs) : DSs X E [st] fs := pss_imp (pss_one h1) fun N σ H h => h
theorem ds_pass : DS X E (.Pass pos) sNx := ps_imp ps_pass fun N σ H ⟨μ, Hf, Fr, ρ, M, r, s, p⟩ => p.now s σ r
theorem ds_break : DS X E (.Break pos) (fun ρ M => .ok (.bk ρ) M) := ps_imp ps_break fun N σ H ⟨μ, Hf, Fr, ρ, M, r, s, p⟩ => p.now s σ r
theorem ds_cont : DS X E (.Continue pos) (fun ρ M => .ok (.ct ρ) M) := ps_imp ps_continue fun N σ H ⟨μ, Hf, Fr, ρ, M, r, s, p⟩ => p.now s σ r
@[simp] def sExpr (F : FE) : FS := fun ρ M => (F ρ M).bind fun _ M1 => .ok (.nx ρ) M1
theorem ds_expr (he : DE X E e F) (hs : swapsWith e none pos.line X.env = pure false := by rfl) : DS X E (.Expr e pos) (sExpr F) := by
  refine ps_imp (ps_expr he hs) fun N σ H ⟨μ, Hf, Fr, ρ, M, r, s, p⟩ => ?_
  exact ⟨μ, Hf, Fr, ρ, M, r, s, p.split.weak fun d μ1 Hf1 H1 M1 e1 m1 s1 p1 v rv => p1.now s1 σ (r.mono e1 m1)⟩
@[simp] def sRet (F : FE) : FS := fun ρ M => (F ρ M).bind fun d M1 => .ok (.rt d) M1
theorem ds_ret (he : DE X E e F) : DS X E (.Return (some e) pos) (sRet F) := by
  refine ps_imp (ps_ret he) fun N σ H ⟨μ, Hf, Fr, ρ, M, r, s, p⟩ => ?_
  exact ⟨μ, Hf, Fr, ρ, M, r, s, p.split.weak fun d μ1 Hf1 H1 M1 e1 m1 s1 p1 v rv => p1.now s1 v rv⟩
theorem ds_retN : DS X E (.Return none pos) (fun _ M => .ok (.rt .non) M) := ps_imp ps_retN fun N σ H ⟨μ, Hf, Fr, ρ, M, r, s, p⟩ => p.now s _ .non
@[simp] def sIf (t : FT) (f g : FS) : FS := fun ρ M => (t ρ M).bind fun k M1 => if k = true then f ρ M1 else g ρ M1
theorem ds_if {p q : List Stmt} (hc : DT X E c ft) (ha : DSs X E p fs) (hb : DSs X E q gs) : DS X E (.If c p q pos) (sIf ft fs gs) := by
  refine ps_imp (ps_if hc ha hb) fun N σ H ⟨μ, Hf, Fr, ρ, M, r, s, p⟩ => ?_
  refine ⟨μ, Hf, Fr, ρ, M, r, s, p.split.weak fun k μ1 Hf1 H1 M1 e1 m1 s1 p1 => ?_⟩
  cases k with
  | true => exact iteT ⟨μ1, Hf1, Fr, ρ, M1, r.mono e1 m1, s1, p1⟩
  | false => exact iteF ⟨μ1, Hf1, Fr, ρ, M1, r.mono e1 m1, s1, p1⟩
@[simp] def sSet (i : Nat) (F : FE) : FS := fun ρ M => (F ρ M).bind fun d M1 => .ok (.nx (ρ.set i (some d))) M1
theorem set_go {i : Nat} {N : Ends} {σ : L2.St} {H : Hp} (h : tsF X.K E (sSet i F) N σ H) : tAsg (teF X.K E F) (gName i) N σ H := by
  obtain ⟨μ, Hf, Fr, ρ, M, r, s, p⟩ := h
  exact ⟨μ, Hf, Fr, ρ, M, r, s, p.split.weak fun d μ1 Hf1 H1 M1 e1 m1 s1 p1 v rv => p1.now s1 _ ((r.mono e1 m1).put i rv)⟩
theorem ds_set {i : Nat} (h : PS X st (tAsg (teF X.K E F) (gName i))) : DS X E st (sSet i F) := ps_imp h fun N σ H => set_go
/-- several names by a tuple, in general -/
@[simp] def sAsg (g : TgD) (F : FE) : FS := fun ρ M => (F ρ M).bind fun d M1 => match g d ρ with
  | some ρ' => .ok (.nx ρ') M1
  | none => .no
theorem ds_asg {tg : Expr} {g : TgD} {sl : List Nat} (he : DE X E e F) (hg : DG X tg g sl) (hs : swapsWithSole [tg] e pos.line X.env = pure false := by rfl) (hw : swappedStores [tg] e X.env = pure none := by rfl)
    (h1 : (assignEach [tg] X.env).map (·.2) = [assign tg X.env] := by rfl) : DS X E (.Assign [tg] e pos) (sAsg g F) := by
  refine ps_imp (ps_asg he hg hs hw h1) fun N σ H ⟨μ, Hf, Fr, ρ, M, r, s, p⟩ => ?_
  refine ⟨μ, Hf, Fr, ρ, M, r, s, p.split.weak fun d μ1 Hf1 H1 M1 e1 m1 s1 p1 v rv => ?_⟩
  split at p1
  · rename_i ρ' hg
    exact ⟨μ1, Hf1, ρ, d, ρ', s1.ex, r.mono e1 m1, rv, hg, fun σ' r' _ _ => p1.now s1 σ' r'⟩
  · exact p1.elim
/-- two names at once, both written -/
@[simp] def sPar (i j : Nat) (fg : FA) : FS := fun ρ M => (fg ρ M).bind fun ds M1 => match ds with
  | [x, y] => .ok (.nx ((ρ.set i (some x)).set j (some y))) M1
  | _ => .no
theorem ds_par {i j : Nat} (h : PS X st (tPar i j (taF X.K E fg))) : DS X E st (sPar i j fg) := by
  refine ps_imp h fun N σ H ⟨μ, Hf, Fr, ρ, M, r, s, p⟩ => ?_
  refine ⟨μ, Hf, Fr, ρ, M, r, s, p.split.weak fun ds μ1 Hf1 H1 M1 e1 m1 s1 p1 vs rs => ?_⟩
  split at p1
  · cases rs with
    | cons r1 t => cases t with
      | cons r2 t => cases t; exact ⟨_, _, rfl, p1.now s1 _ (((r.mono e1 m1).put i r1).put j r2)⟩
  · exact p1.elim
/-- o[i] = e on a list that may change -/
@[simp] def setM (o i d : D) (ρ : Ro) (M : Mem) : Out Fl := match o, i with
  | .loc n, .int k => match M[n]? with
    | some (some xs) => match ixN xs.length k with
      | some j => .ok (.nx ρ) (M.set n (some (xs.set j d)))
      | none => .no
    | _ => .no
  | _, _ => .no
@[simp] def sSetIx (F fo fj : FE) : FS := fun ρ M => (F ρ M).bind fun d M1 => (fo ρ M1).bind fun o M2 => (fj ρ M2).bind fun i M3 => setM o i d ρ M3
theorem ds_setIx {oe ie : Expr} {fo fj : FE} {p1 : Pos} (he : DE X E e F) (ho : DE X E oe fo) (hi : DE X E ie fj) (hs : swapsWithSole [.Subscript oe ie p1] e pos.line X.env = pure false := by rfl) (hw : swappedStores [.Subscript oe ie p1] e X.env = pure none := by rfl)
    (h1 : (assignEach [.Subscript oe ie p1] X.env).map (·.2) = [assign (.Subscript oe ie p1) X.env] := by rfl)
    (ha : ∀ v, assign (.Subscript oe ie p1) X.env v = (do
      let ov ← holding [v] (eval oe X.env)
      let iv ← holding [v, ov] (eval ie X.env)
      standAt p1
      holding [v, ov, iv] (setItem ov iv v)
      release [v, ov, iv] []) := by intro _; rfl) : DS X E (.Assign [.Subscript oe ie p1] e pos) (sSetIx F fo fj) := by
  refine ps_imp (ps_asg he (pg_sub ho hi set_list ha) hs hw h1) fun N σ H ⟨μ, Hf, Fr, ρ, M, r, s, p⟩ => ?_
  refine ⟨μ, Hf, Fr, ρ, M, r, s, p.split.weak fun d μ1 Hf1 H1 M1 e1 m1 s1 p1 v rv => ?_⟩
  refine ⟨μ1, Hf1, Fr, ρ, M1, r.mono e1 m1, s1, p1.split.weak fun od μ2 Hf2 H2 M2 e2 m2 s2 p2 ov ro => ?_⟩
  refine ⟨μ2, Hf2, Fr, ρ, M2, (r.mono e1 m1).mono e2 m2, s2, p2.split.weak fun id μ3 Hf3 H3 M3 e3 m3 s3 p3 iv ri => ?_⟩
  unfold setM at p3
  split at p3
  · split at p3
    · rename_i xs hM
      split at p3
      · rename_i j hj
        cases ri
        have ro' := Rep.mono e3 m3 _ _ ro
        cases ro' with
        | loc q =>
          obtain ⟨a, us, h1, h2, h3, h4, h5⟩ := s3.cell _ _ hM
          rw [q] at h1; cases h1
          have rd : RepAll X.K μ3 Hf3 (us.set j v) (xs.set j d) := h5.set j (Rep.mono e3 m3 _ _ (Rep.mono e2 m2 _ _ rv))
          exact ⟨_, _, _, j, rfl, rfl, h4, by rw [h5.length]; exact hj, p3.now (s3.turn hM q rd) σ (((r.mono e1 m1).mono e2 m2).mono e3 m3)⟩
      · exact p3.elim
    · exact p3.elim
  · exact p3.elim

/-! ### for -/
def loopD (g : TgD) (body : FS) : List D → FS
  | [], ρ, M => .ok (.nx ρ) M
  | d :: ds, ρ, M => match g d ρ with
    | some ρ1 => (body ρ1 M).bind fun f M1 => match f with
      | .nx ρ2 => loopD g body ds ρ2 M1
      | .ct ρ2 => loopD g body ds ρ2 M1
      | .bk ρ2 => .ok (.nx ρ2) M1
      | .rt d => .ok (.rt d) M1
    | none => .no
@[simp] def sFor (fi : FI) (g : TgD) (body : FS) : FS := fun ρ M => (fi ρ M).bind fun xs M1 => loopD g body xs ρ M1
theorem for_go {J : It} {g : TgD} {sl : List Nat} {xs : List D} {μ : List Addr} {Hf Fr H : Hp} {N : Ends} {σ : L2.St} {ρ : Ro} {M : Mem} (w : WalkD X.K μ Hf J xs) (r : ERep X.K μ Hf σ ρ) (s : SR X.K μ Hf Fr H M)
    (p : Post X.K E (loopD g fs xs ρ M) μ Hf Fr (kS X.K N)) :
    ∃ W : Nat → Nat → L2.St → Hp → Prop, (∃ m, W 0 m σ H) ∧ ∀ i m σ H, W i m σ H →
      (J.stop i H ∧ N.nx σ H) ∨ (J.go i H ∧ ∃ Nx : L2.St → Hp → Prop, (∀ σ' H', Nx σ' H' → ∃ m', m' < m ∧ W (i + 1) m' σ' H') ∧ ∀ x H', J.yld i H x H' → tgF X.K g sl x σ H' fun σ2 H2 => tsF X.K E fs { N with nx := Nx, ct := Nx, bk := N.nx } σ2 H2) := by
  obtain ⟨w1, w2, w3⟩ := w
  refine ⟨fun i m σ H => m = xs.length - i ∧ i ≤ xs.length ∧ ∃ μ1 Hf1 ρ1 M1, Same Hf Hf1 ∧ μ <+: μ1 ∧ ERep X.K μ1 Hf1 σ ρ1 ∧ SR X.K μ1 Hf1 Fr H M1 ∧ Post X.K E (loopD g fs (xs.drop i) ρ1 M1) μ1 Hf1 Fr (kS X.K N),
    ⟨_, rfl, Nat.zero_le _, μ, Hf, ρ, M, Same.refl _, List.prefix_refl _, r, s, p⟩, ?_⟩
  rintro i m σ1 H1 ⟨rfl, hi, μ1, Hf1, ρ1, M1, e1, m1, r1, s1, p1⟩
  by_cases hlt : i < xs.length
  · refine .inr ⟨w1 i H1 hlt (e1.trans s1.ex), fun σ' H' => ∃ μ2 Hf2 ρ2 M2, Same Hf Hf2 ∧ μ <+: μ2 ∧ ERep X.K μ2 Hf2 σ' ρ2 ∧ SR X.K μ2 Hf2 Fr H' M2 ∧ Post X.K E (loopD g fs (xs.drop (i + 1)) ρ2 M2) μ2 Hf2 Fr (kS X.K N), fun σ' H' q => ⟨xs.length - (i + 1), by omega, rfl, hlt, q⟩, fun x H' y => ?_⟩
    obtain ⟨Hf2, d, e2, s2, hd, rx⟩ := w3 i μ1 Hf1 Fr H1 M1 x H' hlt e1 m1 s1 y
    have hx : xs[i] = d := by rw [List.getElem?_eq_getElem hlt] at hd; exact Option.some.inj hd
    rw [List.drop_eq_getElem_cons hlt, hx] at p1
    unfold loopD at p1
    split at p1
    · rename_i ρ' hg
      refine ⟨μ1, Hf2, ρ1, d, ρ', s2.ex, r1.mono e2 (List.prefix_refl _), rx, hg, fun σ' r' _ _ => ?_⟩
      refine ⟨μ1, Hf2, Fr, ρ', M1, r', s2, (p1.later e2 (List.prefix_refl _)).split.weak fun f μ3 Hf3 H3 M3 e3 m3 s3 p3 => ?_⟩
      cases f with
      | nx ρ3 => exact fun σ3 r3 => ⟨μ3, Hf3, ρ3, M3, (e1.trans e2).trans e3, m1.trans m3, r3, s3, p3⟩
      | ct ρ3 => exact fun σ3 r3 => ⟨μ3, Hf3, ρ3, M3, (e1.trans e2).trans e3, m1.trans m3, r3, s3, p3⟩
      | bk ρ3 => exact fun σ3 r3 => p3.now s3 σ3 r3
      | rt d3 => exact fun v3 r3 => p3.now s3 v3 r3
    · exact p1.elim
  · have e : i = xs.length := by omega
    subst e
    rw [List.drop_length] at p1
    exact .inl ⟨w2 H1 (e1.trans s1.ex), p1.now s1 σ1 r1⟩
theorem ds_for {tg iter : Expr} {body : List Stmt} {g : TgD} {sl : List Nat} (hp : PassesOwn (model X.prog X.w) X.A X.env X.xe) (hc : X.calm = true) (hi : DI X E tg iter fi) (hg : DG X tg g sl) (hb : DSs X E body fs)
    (hs : ∀ x, foldedSetIterable iter X.env x = pure x := by intro _; rfl) : DS X E (.For tg iter body [] pos) (sFor fi g fs) := by
  refine ps_imp (ps_for hp hc hi hg hb hs) fun N σ H ⟨μ, Hf, Fr, ρ, M, r, s, p⟩ => ?_
  exact ⟨μ, Hf, Fr, ρ, M, r, s, p.split.weak fun xs μ1 Hf1 H1 M1 e1 m1 s1 p1 J w => for_go w (r.mono e1 m1) s1 p1⟩

/-! ### comprehensions -/
abbrev EN : XK := fun _ _ _ => False
@[simp] def Out.noX {α : Type} (o : Out α) : Out α := match o with
  | .exc _ _ => .no
  | o => o
theorem post_noX {α β : Type} {K : Kf} {o : Out α} {f : α → Mem → Out β} {μ : List Addr} {Hf Fr : Hp} {k : β → List Addr → Hp → Hp → Mem → Prop} (p : Post K E (o.noX.bind f) μ Hf Fr k) : Post K EN o μ Hf Fr (fun a μ1 Hf1 _ M1 => Post K E (f a M1) μ1 Hf1 Fr k) := by
  cases o with
  | ok a M => exact p.split
  | exc x M => exact p.elim
  | no => exact p
def lcD (g : TgD) (t : FT) (f : FE) (ρ : Ro) : List D → Mem → Out (List D)
  | [], M => .ok [] M
  | d :: ds, M => match g d ρ with
    | some ρ1 => (t ρ1 M).noX.bind fun k M1 => if k = true then (f ρ1 M1).noX.bind fun y M2 => (lcD g t f ρ ds M2).bind fun ys M3 => .ok (y :: ys) M3 else lcD g t f ρ ds M1
    | none => .no
@[simp] def eLc (fi : FI) (g : TgD) (vs : List Nat) (t : FT) (f : FE) : FE := fun ρ M => (fi ρ M).bind fun xs M1 => if xs.length ≤ lineD then (lcD g t f (wipeD ρ vs) xs M1).bind fun ys M2 => .ok (.lst ys) M2 else .no
/-- the list under way is set aside -/
theorem SR.hide {K : Kf} {μ : List Addr} {Hf Fr H : Hp} {M : Mem} {q : Addr} {o : HO} (s : SR K μ Hf Fr H M) (hq : H q = none) (ho : plainO o = true := by rfl) : SR K μ Hf (upd Fr q o) (upd H q o) M := by
  have hf : Hf q = none := s.ex.free hq
  refine ⟨fun b u e => by rw [upd_ne (ne_of_none e hf)]; exact s.ex b u e, fun b u e => ?_, fun b u e => ?_, s.len, s.nd, fun n ds e => ?_, fun b hb => ?_, tabs_new s.tb hq, s.px, s.pr.upd ho, fun b hb => by
    obtain ⟨u, e⟩ := s.old b hb
    rw [upd_ne (ne_of_none e hq)]; exact s.of b hb⟩
  · by_cases hb : b = q
    · subst hb; rw [upd_same] at e ⊢; exact e
    · rw [upd_ne hb] at e ⊢; exact s.fr b u e
  · by_cases hb : b = q
    · subst hb; exact hf
    · rw [upd_ne hb] at e; exact s.dis b u e
  · obtain ⟨a, vs, h1, h2, h3, h4, h5⟩ := s.cell n ds e
    have ha : a ≠ q := ne_of_none h4 hq
    exact ⟨a, vs, h1, h2, by rw [upd_ne ha]; exact h3, by rw [upd_ne ha]; exact h4, h5⟩
  · obtain ⟨u, e⟩ := s.old b hb
    exact ⟨u, by rw [upd_ne (ne_of_none e hq)]; exact e⟩
theorem SR.hideTurn {K : Kf} {μ : List Addr} {Hf Fr H : Hp} {M : Mem} {q : Addr} {o o' : HO} (s : SR K μ Hf (upd Fr q o) H M) (ho : plainO o' = true := by rfl) : SR K μ Hf (upd Fr q o') (upd H q o') M := by
  have hf : Hf q = none := s.dis q o upd_same
  have hH : H q = some o := s.fr q o upd_same
  refine ⟨fun b u e => by rw [upd_ne (ne_of_none e hf)]; exact s.ex b u e, fun b u e => ?_, fun b u e => ?_, s.len, s.nd, fun n ds e => ?_, fun b hb => ?_, tabs_turn s.tb hH (s.pr q o upd_same), s.px, s.pr.other ho, fun b hb => by
    have z := s.of b hb
    by_cases hb' : b = q
    · subst hb'; rw [upd_same] at z; cases z
    · rw [upd_ne hb'] at z ⊢; exact z⟩
  · by_cases hb : b = q
    · subst hb; rw [upd_same] at e ⊢; exact e
    · rw [upd_ne hb] at e ⊢; exact s.fr b u (by rw [upd_ne hb]; exact e)
  · by_cases hb : b = q
    · subst hb; exact hf
    · rw [upd_ne hb] at e; exact s.dis b u (by rw [upd_ne hb]; exact e)
  · obtain ⟨a, vs, h1, h2, h3, h4, h5⟩ := s.cell n ds e
    have ha : a ≠ q := fun z => by subst z; rw [upd_same] at h3; cases h3
    exact ⟨a, vs, h1, h2, by rw [upd_ne ha] at h3 ⊢; exact h3, by rw [upd_ne ha]; exact h4, h5⟩
  · by_cases hb' : b = q
    · subst hb'; have z := s.of b hb; rw [upd_same] at z; cases z
    · obtain ⟨u, e⟩ := s.old b hb
      exact ⟨u, by rw [upd_ne hb']; exact e⟩
theorem SR.show {K : Kf} {μ : List Addr} {Hf Fr H : Hp} {M : Mem} {q : Addr} {o : HO} (s : SR K μ Hf (upd Fr q o) H M) (hq : Fr q = none) : SR K μ (upd Hf q o) Fr H M ∧ Same Hf (upd Hf q o) := by
  have hf : Hf q = none := s.dis q o upd_same
  have hs : Same Hf (upd Hf q o) := fun b u e => by rw [upd_ne (ne_of_none e hf)]; exact e
  refine ⟨⟨fun b u e => ?_, fun b u e => s.fr b u (by rw [upd_ne (ne_of_none e hq)]; exact e), fun b u e => ?_, s.len, s.nd, fun n ds e => ?_, s.old, s.tb, s.px.upd (noTbl_of (s.pr q o upd_same)), s.pr.less hq, fun b hb => by
    have z := s.of b hb
    by_cases hb' : b = q
    · subst hb'; exact hq
    · rw [upd_ne hb'] at z; exact z⟩, hs⟩
  · by_cases hb : b = q
    · subst hb; rw [upd_same] at e; rw [← e]; exact s.fr b o upd_same
    · rw [upd_ne hb] at e; exact s.ex b u e
  · have hb : b ≠ q := ne_of_none e hq
    rw [upd_ne hb]; exact s.dis b u (by rw [upd_ne hb]; exact e)
  · obtain ⟨a, vs, h1, h2, h3, h4, h5⟩ := s.cell n ds e
    have ha : a ≠ q := fun z => by subst z; rw [upd_same] at h3; cases h3
    exact ⟨a, vs, h1, by rw [upd_ne ha]; exact h2, by rw [upd_ne ha] at h3; exact h3, h4, h5.mono hs (List.prefix_refl _)⟩
theorem wipe_eq {σ σ' : L2.St} {sl vs : List Nat} (hl : σ'.length = σ.length) (hj : ∀ j, j ∉ sl → σ'[j]? = σ[j]?) (h : ∀ j ∈ sl, j ∈ vs) : L2.wipe σ' vs = L2.wipe σ vs := by
  have key : ∀ (vs : List Nat) (τ τ' : L2.St), τ'.length = τ.length → ∀ j, (L2.wipe τ' vs)[j]? = if j ∈ vs ∧ j < τ.length then some none else τ'[j]? := by
    intro vs
    induction vs with
    | nil => intro τ τ' _ j; simp [L2.wipe]
    | cons v vs ih =>
      intro τ τ' hl j
      show ((L2.wipe τ' vs).set v none)[j]? = _
      by_cases hv : v = j
      · subst hv
        by_cases hlt : v < τ.length
        · rw [List.getElem?_set_self (by rw [L2.wipe_length, hl]; exact hlt), if_pos ⟨List.mem_cons_self, hlt⟩]
        · rw [List.getElem?_eq_none (by rw [List.length_set, L2.wipe_length, hl]; omega), if_neg fun z => hlt z.2, List.getElem?_eq_none (by rw [hl]; omega)]
      · rw [List.getElem?_set_ne hv, ih τ τ' hl j]
        have : (j ∈ v :: vs) ↔ j ∈ vs := by simp [Ne.symm hv]
        simp only [this]
  refine List.ext_getElem? fun j => ?_
  rw [key vs σ σ' hl j, key vs σ σ rfl j]
  by_cases hm : j ∈ vs ∧ j < σ.length
  · rw [if_pos hm, if_pos hm]
  · rw [if_neg hm, if_neg hm]
    by_cases hs : j ∈ sl
    · have : ¬ j < σ.length := fun z => hm ⟨h j hs, z⟩
      rw [List.getElem?_eq_none (by rw [hl]; omega), List.getElem?_eq_none (by omega)]
    · exact hj j hs
theorem lc_go {J : It} {g : TgD} {sl vs : List Nat} {xs : List D} {μ : List Addr} {Hf Fr H : Hp} {Q : VK} {σ : L2.St} {ρ : Ro} {M : Mem} (hsl : ∀ j ∈ sl, j ∈ vs) (w : WalkD X.K μ Hf J xs) (r : ERep X.K μ Hf σ ρ) (s : SR X.K μ Hf Fr H M) (hz : xs.length ≤ lineD)
    (p : Post X.K E ((lcD g ft F (wipeD ρ vs) xs M).bind fun ys M2 => .ok (.lst ys) M2) μ Hf Fr (kD X.K Q)) : ∀ D, H D = none → ∃ W : Nat → Nat → Hp → Prop, (∃ m, W 0 m (upd H D (.lst []))) ∧ ∀ i m H, W i m H →
  (J.stop i H ∧ Q (.ref D) H) ∨ (J.go i H ∧ ∃ Nx : Hp → Prop, (∀ H', Nx H' → ∃ m', m' < m ∧ W (i + 1) m' H') ∧ ∀ x H', J.yld i H x H' → tgF X.K g sl x (L2.wipe σ vs) H' fun σ2 H2 => L2.wipe σ2 vs = L2.wipe σ vs ∧ ttF X.K EN ft σ2 H2 fun b H3 =>
    if b = true then teF X.K EN F σ2 H3 fun y H4 => ∃ acc, H4 D = some (.lst acc) ∧ acc.length < sizeLine ∧ Nx (upd H4 D (.lst (acc ++ [y]))) else Nx H3) := by
  intro D hD
  obtain ⟨w1, w2, w3⟩ := w
  have frD : Fr D = none := s.fr.free hD
  let P : Nat → Hp → Prop := fun i H => ∃ μ1 Hf1 M1 acc accD, Same Hf Hf1 ∧ μ <+: μ1 ∧ SR X.K μ1 Hf1 (upd Fr D (.lst acc)) H M1 ∧ RepAll X.K μ1 Hf1 acc accD ∧ acc.length ≤ i ∧
    Post X.K E ((lcD g ft F (wipeD ρ vs) (xs.drop i) M1).bind fun ys M2 => .ok (.lst (accD ++ ys)) M2) μ1 Hf1 Fr (kD X.K Q)
  refine ⟨fun i m H => m = xs.length - i ∧ i ≤ xs.length ∧ P i H, ⟨_, rfl, Nat.zero_le _, μ, Hf, M, [], [], Same.refl _, List.prefix_refl _, s.hide hD, .nil, Nat.le_refl _, p⟩, ?_⟩
  rintro i m H1 ⟨rfl, hi, μ1, Hf1, M1, acc, accD, e1, m1, s1, ra, hal, p1⟩
  by_cases hlt : i < xs.length
  · refine .inr ⟨w1 i H1 hlt (e1.trans s1.ex), P (i + 1), fun H' q => ⟨xs.length - (i + 1), by omega, rfl, hlt, q⟩, fun x H' y => ?_⟩
    obtain ⟨Hf2, d, e2, s2, hd, rx⟩ := w3 i μ1 Hf1 _ H1 M1 x H' hlt e1 m1 s1 y
    have hx : xs[i] = d := by rw [List.getElem?_eq_getElem hlt] at hd; exact Option.some.inj hd
    have pr := List.prefix_refl μ1
    have p2 := p1.later e2 pr
    rw [List.drop_eq_getElem_cons hlt, hx] at p2
    unfold lcD at p2
    have rw0 : ERep X.K μ1 Hf2 (L2.wipe σ vs) (wipeD ρ vs) := ((r.wipe vs).mono e1 m1).mono e2 pr
    split at p2
    · rename_i ρ' hg
      refine ⟨μ1, Hf2, _, d, ρ', s2.ex, rw0, rx, hg, fun σ' r' hl hj => ⟨?_, ?_⟩⟩
      · have h1 := wipe_eq hl hj hsl
        rw [h1]
        exact wipe_eq (sl := vs) (vs := vs) (σ' := L2.wipe σ vs) (σ := σ) (L2.wipe_length _ _) (fun j hn => by
          have : ∀ (vs : List Nat), j ∉ vs → (L2.wipe σ vs)[j]? = σ[j]? := by
            intro vs
            induction vs with
            | nil => intro _; rfl
            | cons v vs ih =>
              intro hn
              show ((L2.wipe σ vs).set v none)[j]? = _
              rw [List.getElem?_set_ne fun z => hn (by simp [z]), ih fun z => hn (List.mem_cons_of_mem _ z)]
          exact this vs hn) fun _ z => z
      · -- the test
        have assoc : ∀ {α β γ : Type} (o : Out α) (f : α → Mem → Out β) (h : β → Mem → Out γ), (o.bind f).bind h = o.bind fun a M => (f a M).bind h := fun o f h => by cases o <;> rfl
        rw [assoc] at p2
        have pt := post_noX p2
        have unF : ∀ {μ'' : List Addr} {Hf'' H'' : Hp} {M'' : Mem} {u : HO}, SR X.K μ'' Hf'' (upd Fr D u) H'' M'' → SR X.K μ'' Hf'' Fr H'' M'' := fun sr =>
          ⟨sr.ex, fun b u' e' => sr.fr b u' (by rw [upd_ne (ne_of_none e' frD)]; exact e'), fun b u' e' => sr.dis b u' (by rw [upd_ne (ne_of_none e' frD)]; exact e'), sr.len, sr.nd, fun n ds e' => by
            obtain ⟨a, vs, h1, h2, h3, h4, h5⟩ := sr.cell n ds e'
            have ha : a ≠ D := fun z => by subst z; rw [upd_same] at h3; cases h3
            exact ⟨a, vs, h1, h2, by rw [upd_ne ha] at h3; exact h3, h4, h5⟩, sr.old, sr.tb, sr.px, sr.pr.less frD, fun b hb => by
            have z := sr.of b hb
            by_cases hb' : b = D
            · subst hb'; exact frD
            · rw [upd_ne hb'] at z; exact z⟩
        -- the frame with the list under way
        have lift : ∀ {α : Type} {o : Out α} {μ' : List Addr} {Hf' : Hp} {k k' : α → List Addr → Hp → Hp → Mem → Prop} {u : HO}, Post X.K EN o μ' Hf' Fr k →
            (∀ a μ'' Hf'' H'' M'', Same Hf' Hf'' → μ' <+: μ'' → SR X.K μ'' Hf'' (upd Fr D u) H'' M'' → (∀ H3, SR X.K μ'' Hf'' Fr H3 M'' → k a μ'' Hf'' H3 M'') → k' a μ'' Hf'' H'' M'') → Post X.K EN o μ' Hf' (upd Fr D u) k' := by
          intro α o μ' Hf' k k' u q h
          cases o with
          | ok a M => exact fun H' Hf'' μ'' e m sr => h a μ'' Hf'' H' M e m sr fun H3 s3 => q H3 Hf'' μ'' e m s3
          | exc x M => exact fun dx H' Hf'' μ'' e m sr xr => q dx H' Hf'' μ'' e m (unF sr) xr
          | no => exact q
        refine ⟨μ1, Hf2, upd Fr D (.lst acc), ρ', M1, r', s2, lift pt fun k μ3 Hf3 H3 M3 e3 m3 s3 p3' => ?_⟩
        have p3 := p3' H3 (unF s3)
        cases k with
        | false =>
          refine iteF ⟨μ3, Hf3, M3, acc, accD, (e1.trans e2).trans e3, m1.trans m3, s3, (ra.mono e2 pr).mono e3 m3, Nat.le_succ_of_le hal, ?_⟩
          rw [if_neg Bool.false_ne_true] at p3
          exact p3
        | true =>
          rw [if_pos rfl, assoc] at p3
          have p4 := post_noX p3
          refine iteT ⟨μ3, Hf3, upd Fr D (.lst acc), ρ', M3, r'.mono e3 m3, s3, lift p4 fun yd μ5 Hf5 H5 M5 e5 m5 s5 p5' yv ry => ?_⟩
          have p5 := p5' H5 (unF s5)
          refine ⟨acc, s5.fr D _ upd_same, line_lt (by have := lineD_eq; omega), μ5, Hf5, M5, acc ++ [yv], accD ++ [yd], ((e1.trans e2).trans e3).trans e5, (m1.trans m3).trans m5, s5.hideTurn, (((ra.mono e2 pr).mono e3 m3).mono e5 m5).app (.cons ry .nil), by simp; omega, ?_⟩
          rw [assoc] at p5
          simpa using p5
    · exact p2.elim
  · have e : i = xs.length := by omega
    subst e
    rw [List.drop_length] at p1
    refine .inl ⟨w2 H1 (e1.trans s1.ex), ?_⟩
    obtain ⟨s6, e6⟩ := s1.show frD
    have p6 : Post X.K E (.ok (.lst accD) M1) μ1 Hf1 Fr (kD X.K Q) := by simpa [lcD] using p1
    exact p6 H1 (upd Hf1 D (.lst acc)) μ1 e6 (List.prefix_refl _) s6 _ (.lst upd_same (ra.mono e6 (List.prefix_refl _)))
end
end Den
namespace Den
open PySem PySem.Spec PyProof.Rows L2
section
variable {X : Cx} {E : XK} {a b c e o : Expr} {es rest : List Expr} {fa fb fc F : FE} {ft fu : FT} {fg : FA} {pos : Pos} {st : Stmt} {sts : List Stmt} {fs gs : FS} {fi : FI}
/-! ### comprehensions as expressions, as the value of a name -/
abbrev DTs (X : Cx) (E : XK) (ifs : List Expr) (F : FT) : Prop := PTs X ifs (ttF X.K E F)
@[simp] def tTrue : FT := fun _ M => .ok true M
theorem pts_imp {ifs : List Expr} {t t' : TT} (h : PTs X ifs t) (i : ∀ σ H Q, t' σ H Q → t σ H Q) : PTs X ifs t' := ⟨fun pins s σ H Q I q => h.run pins s σ H Q I (i σ H Q q)⟩
theorem dts_nil : DTs X E [] tTrue := pts_imp pts_nil fun σ H Q ⟨μ, Hf, Fr, ρ, M, r, s, p⟩ => p.now s
theorem dts_one (h : DT X E c ft) : DTs X E [c] ft := pts_one h
theorem lc_te {g : TgD} {sl vs : List Nat} {σ : L2.St} {H : Hp} {Q : VK} (hsl : ∀ j ∈ sl, j ∈ vs) (h : teF X.K E (eLc fi g vs ft F) σ H Q) : tLc (tiF X.K E fi) (tgF X.K g sl) (ttF X.K EN ft) (teF X.K EN F) vs σ H Q := by
  obtain ⟨μ, Hf, Fr, ρ, M, r, s, p⟩ := h
  refine ⟨μ, Hf, Fr, ρ, M, r, s, p.split.weak fun xs μ1 Hf1 H1 M1 e1 m1 s1 p1 J w => ?_⟩
  split at p1
  · rename_i hz
    exact lc_go hsl w (r.mono e1 m1) s1 hz p1
  · exact p1.elim
section
variable {elt tg iter : Expr} {ifs : List Expr} {scope : Scope} {own : List (Str × Nat)} {g : TgD} {sl vs : List Nat}
theorem de_lc (hc : X.calm = true) (hN : X.N.Nodup) (hi : DI X E tg iter fi) (ok : BlkOk X.N X.env.scope scope own) (hvs : own.map (·.2) = vs) (hsl : ∀ j ∈ sl, j ∈ vs)
    (hg : ∀ (s : Shared) (H : Hp) (C : Addr) (cl : List (Str × Addr)) (fp : List Addr), DG (X.blk s H scope (compEnvC scope cl C X.env) fp) tg g sl)
    (ht : ∀ (s : Shared) (H : Hp) (C : Addr) (cl : List (Str × Addr)) (fp : List Addr), DTs (X.blk s H scope (compEnvC scope cl C X.env) fp) EN ifs ft)
    (he : ∀ (s : Shared) (H : Hp) (C : Addr) (cl : List (Str × Addr)) (fp : List Addr), DE (X.blk s H scope (compEnvC scope cl C X.env) fp) EN elt F) (hs : ∀ x, foldedSetIterable iter X.env x = pure x := by intro _; rfl) :
    DE X E (.ListComp elt [⟨tg, iter, ifs, 0⟩] scope pos) (eLc fi g vs ft F) := by
  subst hvs
  exact pe_imp (pe_lc hc hN hi ok hg ht he hs) fun _ _ _ h => lc_te hsl h
theorem ds_setLc {i : Nat} {y : Str} {py spos : Pos} (hc : X.calm = true) (hN : X.N.Nodup) (hy : X.N[i]? = some y) (hyl : X.env.scope.names.lookup y = some .local)
    (hsw : swapsWith (.ListComp elt [⟨tg, iter, ifs, 0⟩] scope pos) (some (.Name y py)) spos.line X.env = pure true) (hi : DI X E tg iter fi) (ok : BlkOk X.N X.env.scope scope own) (hvs : own.map (·.2) = vs) (hsl : ∀ j ∈ sl, j ∈ vs)
    (hg : ∀ (s : Shared) (H : Hp) (C : Addr) (cl : List (Str × Addr)) (fp : List Addr), DG (X.blk s H scope (compEnvC scope cl C X.env) fp) tg g sl)
    (ht : ∀ (s : Shared) (H : Hp) (C : Addr) (cl : List (Str × Addr)) (fp : List Addr), DTs (X.blk s H scope (compEnvC scope cl C X.env) fp) EN ifs ft)
    (he : ∀ (s : Shared) (H : Hp) (C : Addr) (cl : List (Str × Addr)) (fp : List Addr), DE (X.blk s H scope (compEnvC scope cl C X.env) fp) EN elt F) (hs : ∀ x, foldedSetIterable iter X.env x = pure x := by intro _; rfl) :
    DS X E (.Assign [.Name y py] (.ListComp elt [⟨tg, iter, ifs, 0⟩] scope pos) spos) (sSet i (eLc fi g vs ft F)) := by
  subst hvs
  refine ps_imp (ps_setLc (g := tgF X.K g sl) (tt := ttF X.K EN ft) (te := teF X.K EN F) hc hN hy hyl hsw hi ok hg ht he hs) fun N σ H h => ?_
  obtain ⟨μ, Hf, Fr, ρ, M, r, s, p⟩ := h
  exact lc_te hsl ⟨μ, Hf, Fr, ρ, M, r, s, p.split.weak fun d μ1 Hf1 H1 M1 e1 m1 s1 p1 v rv => p1.now s1 _ ((r.mono e1 m1).put i rv)⟩
end

/-! ### defs -/
/-- what a def promises: it hands back what the function says -/
def spD (K : Kf) (n : Nat) (F : GA) : Sp := fun vs H Q E => vs.length = n ∧ ∃ μ Hf Fr M ds, RepAll K μ Hf vs ds ∧ SR K μ Hf Fr H M ∧ Post K E (F ds M) μ Hf Fr (kD K Q)
structure FnG (P : Program) (w : World) (K : Kf) (mg : Str → Option Value) (base : Heap) (CX : CXT) (k : Nat) (f : Addr) (fd : FuncData) (ps : List Str) (F : GA) : Prop where
  run : ∀ (A : Around) (outer : List Env) (s : Shared) (H : Hp) (args : Args) (us : List Value) (vs : List V) (Q : VK) (E : XK), Room k A → A.guards = some [] → Env0 P w K mg base A outer s H → BindsTo s fd args (ps.zip us) → Vals vs us →
    spD K ps.length F vs H Q E → codeAny (model P w) A (.call (.ref f) args) (CR CX outer P w H s Q E) s
theorem FnG.mono {P : Program} {w : World} {K : Kf} {mg : Str → Option Value} {base : Heap} {CX : CXT} {j k : Nat} {f : Addr} {fd : FuncData} {ps : List Str} {F : GA} (G : FnG P w K mg base CX j f fd ps F) (h : j ≤ k) : FnG P w K mg base CX k f fd ps F :=
  ⟨fun A outer s H args us vs Q E hr => G.run A outer s H args us vs Q E (hr.mono h)⟩
theorem deeper_guards (A : Around) (env : Env) : (A.deeper env).guards = A.guards := by first | rfl | simp [Around.deeper]
section
variable {CX : CXT} {k : Nat} {f : Addr} {fd : FuncData} {ps : List Str} {dvs : List V} {dds : List D} {ds : List Value} {x : Str} {p : Pos} {g : GA}
theorem runG {pins : List (Addr × Obj)} {σ : L2.St} {H : Hp} {s : Shared} {Q : VK} {us : List Value} {vs : List V} (G : FnG X.prog X.w X.K X.mg X.base CX k f fd ps g) (hr : Room k X.A) (hgd : X.A.guards = some []) (hb : Binds X.K fd ps ds) (hd : Vals dvs ds)
    (hx : Passes CX X E) (I : Inv X pins σ H s) (r : Vals vs us) (h : spD X.K ps.length g (vs ++ dvs) H Q E) : wpAny (model X.prog X.w) X.A (call (.ref f) us) (EP X pins σ Q) X.xe s := by
  have rr := r.append hd
  have hn : (us ++ ds).length = ps.length := rr.length.symm.trans h.1
  have go := G.run X.A X.stack s H ⟨us, []⟩ (us ++ ds) (vs ++ dvs) Q E hr hgd I.env0 (hb s us I.kIn hn) rr h
  refine wpAny_call (codeAny_mono go fun res s' q => ?_)
  match res, q with
  | .ok (.ret u), q => exact I.after q
  | .error e, q => exact hx pins σ H s e s' I q
/-- defaults that are data wherever they stand -/
def Dflt (K : Kf) (dvs : List V) (dds : List D) : Prop := ∀ μ Hf, RepAll K μ Hf dvs dds
theorem dflt_nil {K : Kf} : Dflt K [] [] := fun _ _ => .nil
@[simp] def eCall (g : GA) (dds : List D) (n : Nat) (fg : FA) : FE := fun ρ M => (fg ρ M).bind fun xs M1 => if (xs ++ dds).length = n then g (xs ++ dds) M1 else .no
theorem call_go {σ : L2.St} {H : Hp} {Q : VK} (hd : Dflt X.K dvs dds) (h : teF X.K E (eCall g dds ps.length fg) σ H Q) : taF X.K E fg σ H (fun vs H1 => spD X.K ps.length g (vs ++ dvs) H1 Q E) := by
  obtain ⟨μ, Hf, Fr, ρ, M, r, s, z⟩ := h
  refine ⟨μ, Hf, Fr, ρ, M, r, s, z.split.weak fun xs μ1 Hf1 H1 M1 e1 m1 s1 p1 vs rs => ?_⟩
  split at p1
  · rename_i hn
    have ra := rs.app (hd μ1 Hf1)
    exact ⟨by rw [ra.length]; exact hn, μ1, Hf1, Fr, M1, xs ++ dds, ra, s1, p1⟩
  · exact p1.elim
theorem de_call (G : FnG X.prog X.w X.K X.mg X.base CX k f fd ps g) (hr : Room k X.A) (hgd : X.A.guards = some []) (hg : Gl X x) (hm : X.mg x = some (.ref f)) (hk : PySem.W.keepIn X.K (.ref f) = true) (hb : Binds X.K fd ps ds) (hd : Vals dvs ds) (hdd : Dflt X.K dvs dds)
    (hx : Passes CX X E) (ha : DA X E (e :: es) fg) (hdb : (x == ("__debug__" : Str)) = false := by decide) (he : starEach (e :: es) X.env = (false, eval e X.env) :: starEach es X.env := by rfl) (hpl : (backTo pos (starEach es X.env)).any (·.1) = false := by rfl) :
    DE X E (.Call (.Name x p) (e :: es) [] pos) (eCall g dds ps.length fg) := by
  constructor
  intro pins s σ H Q I h
  refine wpAny_Call_Name_kw (ld_glob I hg hm (PySem.W.callWith_K (h₀ := X.base) I.ok.mod.kin hk (thn (ha.run pos pins s σ H _ I (call_go hdd h)) ?_) he hpl) hdb)
  rintro us s1 ⟨vs, H1, I1, r, q⟩
  exact ⟨I1.kIn, runG G hr hgd hb hd hx I1 r q⟩
/-- a def that a name of the frame's holds; S: which function stands at which address -/
@[simp] def eCallL (i : Nat) (S : Addr → Option (Nat × GA)) (fg : FA) : FE := fun ρ M => match ρ[i]? with
  | some (some (.fn a)) => match S a with
    | some (n, g) => (fg ρ M).bind fun xs M1 => if xs.length = n then g xs M1 else .no
    | none => .no
  | _ => .no
structure HeldG (P : Program) (w : World) (K : Kf) (mg : Str → Option Value) (base : Heap) (k : Nat) (f : Addr) (n : Nat) (g : GA) : Prop where
  ex : ∃ (fd : FuncData) (ps : List Str), FnG P w K mg base CX0 k f fd ps g ∧ PySem.W.keepIn K (.ref f) = true ∧ Binds K fd ps [] ∧ ps.length = n
theorem de_callL {i : Nat} {S : Addr → Option (Nat × GA)} (A : ∀ f n g, S f = some (n, g) → HeldG X.prog X.w X.K X.mg X.base k f n g) (hr : Room k X.A) (hgd : X.A.guards = some []) (hN : X.N[i]? = some x) (hv : Vis X.env.scope x) (ha : DA X E (e :: es) fg)
    (hdb : (x == ("__debug__" : Str)) = false := by decide) (hcd : (x == ("__classdict__" : Str)) = false := by decide)
    (he : starEach (e :: es) X.env = (false, eval e X.env) :: starEach es X.env := by rfl) (hpl : (backTo pos (starEach es X.env)).any (·.1) = false := by rfl) : DE X E (.Call (.Name x p) (e :: es) [] pos) (eCallL i S fg) := by
  constructor
  rintro pins s σ H Q I ⟨μ, Hf, Fr, ρ, M, r, sr, z⟩
  unfold eCallL at z
  split at z
  · rename_i f hf
    split at z
    · rename_i n g hS
      obtain ⟨fd, ps, G, hk, hb, hn⟩ := (A f n g hS).ex
      subst hn
      obtain ⟨v, h1, h2⟩ := r.slot i _ hf
      cases h2
      refine wpAny_Call_Name_kw (thn ((pe_var (pos := p) hN hv hdb hcd).run pins s σ H (fun v H1 => v = .ref f ∧ H1 = H) I ⟨.ref f, h1, rfl, rfl⟩) ?_)
      rintro u s1 ⟨v, H1, I1, r1, rfl, rfl⟩
      cases r1
      refine PySem.W.callWith_K (h₀ := X.base) I.ok.mod.kin hk (thn (ha.run pos pins s1 σ _ _ I1 (call_go (dvs := []) (dds := []) (Q := Q) (g := g) dflt_nil ⟨μ, Hf, Fr, ρ, M, r, sr, by simpa [eCall] using z⟩)) ?_) he hpl
      rintro us s2 ⟨vs, H2, I2, rv, q⟩
      exact ⟨I2.kIn, runG (E := E) G hr hgd hb .nil (fun _ _ _ _ _ _ _ y => y.elim) I2 rv q⟩
    · exact z.elim
  · exact z.elim
end
/-- the function of a def by what its body does to its names -/
@[simp] def defF (n : Nat) (body : FS) : GA := fun ds M => (body (ds.map some ++ List.replicate (n - ds.length) none) M).noX.bind fun f M1 => match f with
  | .rt d => .ok d M1
  | .nx _ => .ok .non M1
  | _ => .no
theorem start_rep {K : Kf} {μ : List Addr} {H : Hp} {N : List Str} {vs : List V} {ds : List D} (r : RepAll K μ H vs ds) : ERep K μ H (L2.start N vs) (ds.map some ++ List.replicate (N.length - ds.length) none) := by
  unfold L2.start
  refine ⟨by simp [r.length], fun i d e => ?_⟩
  by_cases hi : i < ds.length
  · rw [List.getElem?_append_left (by simpa using hi), List.getElem?_map] at e
    cases hd : ds[i]? with
    | none => rw [hd] at e; cases e
    | some d' =>
      rw [hd] at e
      have e' : d' = d := by simpa using e
      subst e'
      obtain ⟨v, h1, h2⟩ := r.at hd
      refine ⟨v, ?_, h2⟩
      rw [List.getElem?_append_left (by simp [r.length, hi]), List.getElem?_map, h1]
      rfl
  · rw [List.getElem?_append_right (by simpa using hi), List.getElem?_replicate] at e
    split at e <;> cases e
section
variable {P : Program} {w : World} {K : Kf} {mg : Str → Option Value} {base : Heap}
/-- THE RULE for a def by its body (that lets nothing out) -/
theorem fnG_of {x qual : Str} {f : Addr} {fd : FuncData} {N ps : List Str} {k : Nat} {body : FS} (F : Fun K x qual st f fd) (S : FnScope N ps (defScope st))
    (hb : ∀ (cdv : Value) (A : Around) (outer : List Env) (s : Shared) (H : Hp) (E : XK), Room k (A.deeper (envOfC qual (defScope st) s.heap.objs.size f cdv)) → A.guards = some [] →
      DSs (cxOf CX0 P w K mg base N qual (defScope st) f cdv A outer s H E).nox EN (defBody st) body) : FnG P w K mg base CX0 (k + 1) f fd ps (defF N.length body) := by
  obtain ⟨oc, od, kV, doc, pm, an, cdv, ct, osl, rfl, lk, hcd⟩ := F.ex
  constructor
  rintro A outer s H args us vs Q E hr hgd e0 hbd rv ⟨hl, μ, Hf, Fr, M, ds, ra, sr, z⟩
  have keep : ∀ b o, base.get? b = some o → s.heap.get? b = some o := fun b o e => (e0.bs b o e).1
  have kin := e0.mod.kin.keeps keep
  have kinds : ∀ y ∈ ps.zip us, (defScope st).names.lookup y.1 = some .local ∨ ((defScope st).names.lookup y.1 = some .cell ∧ ((cellsFrom (s.heap.objs.size + 1) (defScope st).names []).lookup y.1).isSome = true) := by
    rintro ⟨y, v⟩ hy
    exact (S.par y (List.of_mem_zip hy).1).imp _root_.id fun q => ⟨q, PySem.W.cellsFrom_some _ _ _ (.inl q)⟩
  refine codeAny_call_function hr.depth (kin _ _ lk) rfl S.co S.gen rfl (PySem.W.codeRec_of kin hcd) (hbd _ _ _ _ ?_)
  refine wpAny_newFunctionEnv_cells S.kind kinds ?_
  rintro env rfl s1 ent
  refine ⟨(e0.mod.nolimit.keeps keep).keeps ent.toInCall.keep, codeAny_func ?_⟩
  have I := inv_start (CX := CX0) (P := P) (w := w) (mg := mg) (E := E) (vs := vs) S hr.hd e0 hl rv ent
  have ran := (hb cdv A outer s H E (hr.deeper _) hgd).nox
  have want : tsF K EN body { nx := fun _ H' => Q .non H', rt := Q } (L2.start N vs) H := by
    refine ⟨μ, Hf, Fr, _, M, start_rep ra, sr, (post_noX z).weak fun f μ1 Hf1 H1 M1 e1 m1 s1 p1 => ?_⟩
    cases f with
    | rt d => exact fun v r1 => p1.now s1 v r1
    | nx ρ => exact fun _ _ => p1.now s1 _ .non
    | bk ρ => exact p1.elim
    | ct ρ => exact p1.elim
  refine wpAny_mono (ran.run [] s1 (L2.start N vs) H _ I want) (fun fl s' hs => ?_) fun e s' hs => hs
  match fl, hs with
  | .ret u, ⟨v, σ', H', J, rr, q⟩ => exact ⟨v, H', J.os, J.bare, J.base, J.hok, rr, q⟩
  | .next, ⟨σ', H', J, q⟩ => exact ⟨.non, H', J.os, J.bare, J.base, J.hok, rfl, q⟩
  | .brk, ⟨_, _, _, q⟩ => exact False.elim q
  | .cont, ⟨_, _, _, q⟩ => exact False.elim q
end
end
end Den
namespace Den
open PySem PySem.Spec PyProof.Rows L2
theorem ints_rep {K : Kf} {μ : List Addr} {H : Hp} : ∀ ns : List Int, RepAll K μ H (ns.map V.int) (ns.map D.int)
  | [] => .nil
  | n :: ns => .cons (.int n) (ints_rep ns)
/-! ### the law's call -/
/-- the defs with lambdas: code object and table -/
def lamC (K : Kf) : List (Addr × Addr) := lamNames.filterMap fun x => PySem.W.tabIn K x
theorem lamT_mem {K : Kf} {p : Addr × Str} (h : p ∈ lamT K) : ∃ c, (c, p.1) ∈ lamC K := by
  obtain ⟨x, hx, e⟩ := List.mem_filterMap.mp h
  cases ht : PySem.W.tabIn K x with
  | none => rw [ht] at e; cases e
  | some q =>
    rw [ht] at e
    cases e
    exact ⟨q.1, List.mem_filterMap.mpr ⟨x, hx, ht⟩⟩
/-- what the making of lambdas asks, for all defs with lambdas -/
def LamB (K : Kf) (mg : Str → Option Value) (base : Heap) : Prop := ∀ p ∈ lamC K, LamX.TabB base mg p.1 p.2
/-- tables as the top leaves them -/
structure Lam0 (K : Kf) (h : Heap) : Prop where
  emp : ∀ p ∈ lamC K, h.get? p.2 = some (PySem.W.tabObj #[])
  out : ∀ p ∈ lamC K, K.lookup p.2 = none
  hd : ∀ p ∈ lamC K, PySem.W.CodeHd h p.1 p.2
theorem law_callG {P : Program} {w : World} {K : Kf} {mg mb : Str → Option Value} {k : Nat} {fa a : Addr} {fd : FuncData} {x : Str} {s₁ : Shared} {vs : List Value} {ns : List Int}
    (kin : K.In s₁.heap) (hns : s₁.heap.Ns mainGlobals mg) (hb : s₁.heap.Ns builtinsNs mb) (hbb : ∀ x : Str, x ≠ "__name__" → mb x = bootBuiltins x) (hlim : s₁.heap.NoLimit) (hg : s₁.gens = #[])
    (bmain : ∃ (bm : Addr) (ob : Obj), mg "__builtins__" = some (.ref bm) ∧ bm ≠ builtinsNs ∧ s₁.heap.get? bm = some ob ∧ ob.cls = .type "module" ∧ ob.dict = some builtinsNs ∧ ob.data = .plain) (L : Lam0 K s₁.heap)
    (ha : s₁.heap.get? a = some { cls := .type "list", data := .seq vs.toArray }) (hi : IntsAre vs ns) (hl : ns.length ≤ sizeLine) (hr : Room k callerA)
    (F : ∀ base : Heap, K.In base → base.Ns mainGlobals mg → LamB K mg base → ∃ g M', FnG P w K mg base CX0 k fa fd [x] g ∧ g [.scr (ns.map D.int)] [] = .ok (.bl true) M') (hbind : ∀ (s : Shared) (u : Value), BindsTo s fd ⟨[u], []⟩ [(x, u)]) :
    codeAny (model P w) callerA (.call (.ref fa) ⟨[.ref a], []⟩) (fun r s' => r = .ok (.ret (.bool true)) ∧ OldK s₁.heap s'.heap ∧ s'.os = s₁.os ∧ AllBare s'.gens) s₁ := by
  have rv := vals_ints hi
  have lenV := hi.length
  let tab : Addr → Prop := fun b => ∃ p ∈ lamC K, p.2 = b
  have tab_at : ∀ {b : Addr}, tab b → s₁.heap.get? b = some (PySem.W.tabObj #[]) := fun ⟨p, hp, e⟩ => e ▸ L.emp p hp
  have core : ∀ H : Hp, (∀ b, tab b → H b = some (.tbl #[])) → (∀ b, H b = none ∨ tab b ∨ ∃ o xs, H b = some (.frz o (.lst xs))) → SqL K H a (ns.map V.int) → HOk P w H s₁.heap → (∀ b, H b ≠ none → b = a ∨ tab b) → (H a ≠ none → K.lookup a = none) →
      codeAny (model P w) callerA (.call (.ref fa) ⟨[.ref a], []⟩) (fun r s' => r = .ok (.ret (.bool true)) ∧ OldK s₁.heap s'.heap ∧ s'.os = s₁.os ∧ AllBare s'.gens) s₁ := by
    intro H tabs only sq ok one away
    -- an object that is neither the script nor a table is not tracked
    have free : ∀ {b : Addr} {o : Obj}, s₁.heap.get? b = some o → o ≠ { cls := .type "list", data := .seq vs.toArray } → o ≠ PySem.W.tabObj #[] → H b = none := by
      intro b o e n1 n2
      cases q : H b with
      | none => rfl
      | some u =>
        rcases one b (by rw [q]; exact fun z => nomatch z) with z | z
        · rw [z, ha] at e; exact absurd (Option.some.inj e).symm n1
        · rw [tab_at z] at e; exact absurd (Option.some.inj e).symm n2
    have nodict : ∀ {b : Addr} {o : Obj} {es : Array DictEntry} {ep : Nat}, s₁.heap.get? b = some o → o.data = .dict es ep → H b = none := fun e d =>
      free e (fun z => by rw [z] at d; cases d) (fun z => by rw [z] at d; cases d)
    have ns_base : ∀ {b : Addr} {m : Str → Option Value}, s₁.heap.Ns b m → (hidT s₁.heap H).Ns b m := by
      rintro b m ⟨o, es, ep, e, d, r⟩
      exact ⟨o, es, ep, hidT_get e (nodict e d), d, r⟩
    have kin_base : K.In (hidT s₁.heap H) := by
      intro b o e
      refine hidT_get (kin b o e) ?_
      cases q : H b with
      | none => rfl
      | some u =>
        rcases one b (by rw [q]; exact fun z => nomatch z) with z | ⟨p, hp, z⟩
        · subst z
          rw [away (by rw [q]; exact fun z => nomatch z)] at e
          cases e
        · rw [← z, L.out p hp] at e
          cases e
    have md : Mod K mg (hidT s₁.heap H) := by
      obtain ⟨mc, c1, c2⟩ := hlim
      exact ⟨kin_base, ns_base hns, ⟨mb, ns_base hb, hbb⟩, mc, ns_base c1, c2⟩
    have lam : LamB K mg (hidT s₁.heap H) := by
      intro p hp
      have tp := L.emp p hp
      refine ⟨?_, ?_, fun z => ?_⟩
      · obtain ⟨oc, us, q1, q2, q3, q4, q5, q6, q7, at_c, isC, dat, r⟩ := L.hd p hp
        exact ⟨oc, us, q1, q2, q3, q4, q5, q6, q7, hidT_get at_c (free at_c (fun z => by rw [z] at dat; cases dat) fun z => by rw [z] at isC; cases isC), isC, dat, r⟩
      · obtain ⟨bm, ob, g1, g2, at_b, g4, g5, g6⟩ := bmain
        have nofree := free at_b (fun z => by rw [z] at g6; cases g6) (fun z => by rw [z] at g6; cases g6)
        refine ⟨bm, ob, g1, g2, fun z => ?_, fun z => ?_, hidT_get at_b nofree, g4, g5, g6⟩
        · obtain ⟨om, es, ep, at_m, dm, _⟩ := hns
          rw [← z, at_b] at at_m
          cases at_m
          rw [g6] at dm
          cases dm
        · rw [z, tp] at at_b
          cases at_b
          cases g6
      · obtain ⟨om, es, ep, at_m, dm, _⟩ := hns
        rw [z, tp] at at_m
        cases at_m
        cases dm
    have e0 : Env0 P w K mg (hidT s₁.heap H) callerA [] s₁ H := by
      refine ⟨rfl, md, fun b o e => of_hidT e, Nat.le_of_eq (hidT_size _ _), trivial, fun b hb => ?_, ok, .of_eq hg⟩
      exact absurd (show b ∈ ([] : List Addr) from hb) (by simp)
    obtain ⟨g, M', G, hM⟩ := F _ kin_base (ns_base hns) lam
    let Hd : Hp := fun b => if b = a then H b else none
    have hd_a : Hd a = H a := if_pos rfl
    have sqd : SqL K Hd a (ns.map V.int) := sq.elim (fun q => .inl (q.elim (fun q => .inl (hd_a.trans q)) fun ⟨o, q⟩ => .inr ⟨o, hd_a.trans q⟩)) .inr
    have exd : Same Hd H := fun b u e => by
      by_cases hb : b = a
      · subst hb; rw [hd_a] at e; exact e
      · have z : Hd b = none := if_neg hb
        rw [z] at e; cases e
    have plain : NoTbl Hd := fun b u e => by
      by_cases hb : b = a
      · subst hb
        rw [hd_a] at e
        rcases only b with z | z | ⟨o, xs, z⟩
        · rw [z] at e; cases e
        · have y := tab_at z
          rw [ha] at y
          cases y
        · rw [z] at e; cases e; rfl
      · have z : Hd b = none := if_neg hb
        rw [z] at e; cases e
    have tb : LamX.Tabs (lamT K) H := fun p hp => by
      obtain ⟨c, hc⟩ := lamT_mem hp
      exact LamX.TabS.nil (tabs _ ⟨_, hc, rfl⟩)
    have sp : spD K [x].length g [.ref a] H (fun v _ => v = .bl true) EN := by
      refine ⟨rfl, [], Hd, fun _ => none, [], [.scr (ns.map D.int)], .cons (.scr sqd (ints_rep ns)) .nil, ⟨exd, fun _ _ e => (nomatch e), fun _ _ e => (nomatch e), rfl, List.nodup_nil, fun n ds e => by simp at e, fun b hb => by simp at hb, tb, plain, fun _ _ e => (nomatch e), fun b hb => by simp at hb⟩, ?_⟩
      rw [hM]
      exact fun H' Hf' μ' _ _ _ v r => by cases r; rfl
    refine codeAny_mono (G.run callerA [] s₁ H ⟨[.ref a], []⟩ [.ref a] [.ref a] _ EN hr rfl e0 (hbind s₁ (.ref a)) (.cons rfl .nil) sp) ?_
    intro r s' h
    match r, h with
    | .error e, h => exact h.elim
    | .ok (.ret u), ⟨v, H', os, bare, un, ok', r', q⟩ =>
      have q' : v = .bl true := q
      subst q'
      have u' : u = Value.bool true := r'
      subst u'
      have nil : ∀ b : Addr, b ∉ ([] : List Addr) := fun b => by simp
      have same : ∀ b o, ¬ tab b → s₁.heap.get? b = some o → s'.heap.get? b = some o := by
        intro b o nt e
        cases q : H b with
        | none => exact un.keep b o e q (nil b) (nil b)
        | some u =>
          rcases only b with z | z | ⟨ob, xs, z⟩
          · rw [q] at z; cases z
          · exact absurd z nt
          · have x1 := (ok b _ z).1
            have x2 := (ok' b _ (un.frzs b ob _ z)).1
            rw [e] at x1
            cases x1
            exact x2
      have more : ∀ p ∈ lamC K, ∃ ps : Array Value, s'.heap.get? p.2 = some (PySem.W.tabObj ps) := fun p hp => by
        obtain ⟨ps, z⟩ := un.tbls p.2 #[] (tabs _ ⟨p, hp, rfl⟩)
        exact ⟨_, ok' p.2 _ z⟩
      refine ⟨rfl, ⟨fun b o e => ?_, fun b o e => ?_⟩, os, bare⟩
      · by_cases ht : tab b
        · obtain ⟨p, hp, rfl⟩ := ht
          rw [L.emp p hp] at e
          cases e
          obtain ⟨ps, hps⟩ := more p hp
          refine .inr (.inl ⟨((L.hd p hp).tab (L.emp p hp)).isCodeTable, rfl, #[], ps, rfl, ?_⟩)
          rw [Array.empty_append]
          exact hps
        · exact .inl (same b o ht e)
      · by_cases ht : tab b
        · obtain ⟨p, hp, rfl⟩ := ht
          obtain ⟨ps, hps⟩ := more p hp
          exact ⟨_, hps⟩
        · exact ⟨o, same b o ht e⟩
  have natab : ¬ tab a := fun z => by
    have y := tab_at z
    rw [ha] at y
    cases y
  let T0 : Hp := fun b => open Classical in if tab b then some (.tbl #[]) else none
  have t1 : ∀ b, tab b → T0 b = some (.tbl #[]) := fun b h => if_pos h
  have t2 : ∀ b, ¬ tab b → T0 b = none := fun b h => if_neg h
  have okT : ∀ b u, T0 b = some u → ∃ _ : tab b, u = .tbl #[] := fun b u z => by
    by_cases h : tab b
    · rw [t1 b h] at z; cases z; exact ⟨h, rfl⟩
    · rw [t2 b h] at z; cases z
  cases hk : K.lookup a with
  | some o =>
    have e := kin a o hk
    rw [ha] at e
    cases e
    have sq : SqL K T0 a (ns.map V.int) := .inr ⟨_, vs.toArray, _, hk, rfl, rfl, rfl, by rw [List.size_toArray, lenV]; exact hl, by simpa using rv⟩
    refine core T0 t1 (fun b => ?_) sq (fun b u z => ?_) (fun b z => ?_) fun z => absurd (t2 a natab) z
    · by_cases h : tab b
      · exact .inr (.inl h)
      · exact .inl (t2 b h)
    · obtain ⟨h, rfl⟩ := okT b u z
      exact tab_at h
    · by_cases h : tab b
      · exact .inr h
      · exact absurd (t2 b h) z
  | none =>
    let o : Obj := { cls := .type "list", data := .seq vs.toArray }
    let H : Hp := upd T0 a (.frz o (.lst (ns.map V.int)))
    have hHa : H a = some (.frz o (.lst (ns.map V.int))) := upd_same
    have hHn : ∀ b, b ≠ a → H b = T0 b := fun b hb => upd_ne hb
    refine core H (fun b h => ?_) (fun b => ?_) (.inl (.inr ⟨o, hHa⟩)) (fun b u z => ?_) (fun b z => ?_) fun _ => hk
    · rw [hHn b fun z => natab (z ▸ h)]; exact t1 b h
    · by_cases hb : b = a
      · subst hb; exact .inr (.inr ⟨_, _, hHa⟩)
      · by_cases h : tab b
        · exact .inr (.inl h)
        · exact .inl ((hHn b hb).trans (t2 b h))
    · by_cases hb : b = a
      · subst hb
        rw [hHa] at z
        cases z
        exact ⟨ha, by rw [List.length_map]; exact hl, vs, _, rv, ha⟩
      · rw [hHn b hb] at z
        obtain ⟨h, rfl⟩ := okT b u z
        exact tab_at h
    · by_cases hb : b = a
      · exact .inl hb
      · rw [hHn b hb] at z
        by_cases h : tab b
        · exact .inr h
        · exact absurd (t2 b h) z
/-- each def with lambdas: it is not there, or its table is known -/
def LamQ (q : Program) (K : Kf) : Prop := ∀ x ∈ lamNames, PySem.W.tabIn K x = none ∨ ∃ p d, PySem.W.tabIn K x = some p ∧ K.lookup p.2 = none ∧ (recsOf q).find? (fun e => e.name == x) = some d
/-- the goal that the head leaves, from what the law's function says -/
theorem walkG {l : PySem.W.OpenLaw} {n k : Nat} {q : Program} {loose : List Str} {XP : (Str → Option Value) → Heap → Prop} {YP : World → Heap → Prop} {d : DefRec} {K : Params → Kf} {x : Str}
    (hn : l.most = some n) (hn2 : n ≤ sizeLine) (hdf : d.params.defaults = []) (hr : Room k callerA) (hY : ∀ (w : World) (h : Heap), YP w h → (K w.params).In h) (hq : ∀ w : World, LamQ q (K w.params))
    (F : ∀ (w : World) (mg : Str → Option Value) (fa : Addr) (h : Heap), (K w.params).In h → h.Ns mainGlobals mg → mg d.name = some (.ref fa) →
      ∃ fd : FuncData, (∀ (s : Shared) (u : Value), BindsTo s fd ⟨[u], []⟩ [(x, u)]) ∧
        ∀ (base : Heap) (ns : List Int), ns.length ≤ n → (K w.params).In base → base.Ns mainGlobals mg → LamB (K w.params) mg base → ∃ g M', FnG l.prog w (K w.params) mg base CX0 k fa fd [x] g ∧ g [.scr (ns.map D.int)] [] = .ok (.bl true) M') :
    PySem.W.WalkO q loose XP YP l.row.toRowW d [] (fun f vs => PySem.call f vs) := by
  refine Att.attach_call hn hdf ?_
  intro w s₀ s₁ mg mb fa o pm cd doc a vs ns G Y ho hd hcd hmg hobj hints hlen hg
  obtain ⟨fd, hb, hF⟩ := F w mg fa _ (hY w _ Y) G.T.g hmg
  have at_ : ∀ p ∈ lamC (K w.params), (PySem.W.CodeHd s₁.heap p.1 p.2 ∧ s₁.heap.get? p.2 = some (PySem.W.tabObj #[])) ∧ (K w.params).lookup p.2 = none := fun p hp => by
    obtain ⟨y, hy, e⟩ := List.mem_filterMap.mp hp
    rcases hq w y hy with z | ⟨p', d', z1, z2, z3⟩
    · rw [z] at e; cases e
    · rw [z1] at e
      cases e
      exact ⟨PySem.W.tab_of G.T (hY w _ Y) z3 z1, z2⟩
  exact law_callG (hY w _ Y) G.T.g G.T.b G.T.builtins G.T.nolimit hg G.T.bmain ⟨fun p hp => (at_ p hp).1.2, fun p hp => (at_ p hp).2, fun p hp => (at_ p hp).1.1⟩ hobj hints (Nat.le_trans hlen hn2) hr (fun base h1 h2 h3 => hF base ns hlen h1 h2 h3) hb

section
variable {X : Cx} {E : XK} {a b c e o : Expr} {es rest : List Expr} {fa fb fc F : FE} {ft fu : FT} {fg : FA} {pos : Pos} {st : Stmt} {sts : List Stmt} {fs gs : FS} {fi : FI}
/-! ### dicts that are only held -/
@[simp] def eD0 : FE := fun _ M => .ok (.dct [] []) M
theorem de_d0 : DE X E (.Dict [] [] pos) eD0 := pe_imp pe_dnewK fun σ H Q ⟨μ, Hf, Fr, ρ, M, r, s, p⟩ q hq => p.new s hq fun e => .dct upd_same rfl .nil
end

/-! ### list(text) -/
theorem call_list_str {prog : Program} {w : World} {A : Around} {E : Value → Shared → Prop} {s : Shared} {Q : Value → Shared → Prop} (hh : A.handled = none) (x : Str) (t : Tok) (hn : x.cps.size ≤ sizeLine)
    (hQ : ∀ h' tk acc' c', (∀ b o, s.heap.get? b = some o → h'.get? b = some o) → h'.get? s.heap.objs.size = some { cls := .type "list", dict := none, data := .seq acc' c', slots := #[] } → ItemsOf (SignAt x) acc' x.cps.size → Q (.ref s.heap.objs.size) { s with heap := h', toks := tk }) :
    wpAny (model prog w) A (call (.type "list") [.str x t]) Q E s := by
  refine callType_codes (Q₁ := fun obj s₁ => obj = .ref s.heap.objs.size ∧ s₁ = { s with heap := s.heap.push { cls := .type "list", data := .seq #[] } }) PySem.F.called_list (PySem.F.typeCall_list_1 _) PySem.F.entry_list_init (code_list_new _ ⟨rfl, rfl⟩) ?_
  rintro obj s₁ ⟨rfl, rfl⟩
  have hS : (s.heap.push { cls := .type "list", data := .seq #[] }).get? s.heap.objs.size = some { cls := .type "list", data := .seq #[] } := Heap.get?_push_size _ rfl
  refine ⟨⟨_, hS, rfl⟩, PySem.F.args_list_init_2 _ _, ?_⟩
  show wpAny _ _ (do let old ← Builtin.List.listItems (.ref s.heap.objs.size); Builtin.List.listUpdate (.ref s.heap.objs.size) (fun _ => #[]); letGo old.toList.reverse; Builtin.List.listExtendWith (.ref s.heap.objs.size) (.str x t) .none) _ _ _
  refine wpAny_bind ?_
  unfold Builtin.List.listItems
  refine wpAny_bind (wpAny_seqItems hS rfl (wpAny_pure ?_))
  show wpAny _ _ (updateSeq s.heap.objs.size (fun _ => #[]) >>= fun _ => letGo (#[] : Array Value).toList.reverse >>= fun _ => Builtin.List.listExtendWith (.ref s.heap.objs.size) (.str x t) .none) _ _ _
  refine wpAny_bind (wpAny_updateSeq hS rfl ?_)
  have hS₂ := Heap.get?_update_self (Obj.mapSeq (fun _ => (#[] : Array Value))) hS rfl
  have oth : ∀ b o, s.heap.get? b = some o → ((s.heap.push { cls := .type "list", data := .seq #[] }).update s.heap.objs.size (Obj.mapSeq (fun _ => (#[] : Array Value)))).get? b = some o :=
    fun b o e => (Heap.get?_update_other _ _ (Nat.ne_of_gt (Heap.lt_size e))).trans (Heap.get?_push_of_some _ e)
  refine wpAny_bind (wpAny_letGo ?_)
  generalize hH : (s.heap.push { cls := .type "list", data := .seq #[] }).update s.heap.objs.size (Obj.mapSeq (fun _ => (#[] : Array Value))) = H at hS₂ oth ⊢
  unfold Builtin.List.listExtendWith
  refine wpAny_bind (wpAny_typeOf (T := "str") (v := .str x t) rfl ?_)
  have h1 : Builtin.List.listSameRef (.ref s.heap.objs.size) (.str x t) = false := rfl
  have h2 : (Value.type "str" == Value.type "list") = false := by decide
  have h3 : (Value.type "str" == Value.type "tuple") = false := by decide
  simp only [h1, h2, h3, Bool.or_false, Bool.false_eq_true, if_false]
  refine wpAny_bind (wpAny_pyIter_str fun o St W hst => ?_)
  refine wpAny_bind (wpAny_holding ?_)
  unfold Builtin.List.listLengthHint
  refine wpAny_bind (wpAny_specialOf (T := "str") (v := .str x t) rfl PySem.F.str_len ?_)
  wp_delta
  refine wpAny_bind (wpAny_isInstance (T := "str") (v := .str x t) (b := true) rfl (by rw [isSubtype_type]; kernel_rfl) ?_)
  show wpAny _ _ (typeOf (Value.str x t) >>= _) _ _ _
  refine wpAny_bind (wpAny_typeOf (T := "str") (v := .str x t) rfl ?_)
  refine wpAny_pure ?_
  rw [if_neg (by decide)]
  have hlt : s.heap.objs.size < H.objs.size := Heap.lt_size hS₂
  have hSf : s.heap.objs.size ∉ [H.objs.size] := fun hm => by
    have := List.mem_singleton.mp hm
    omega
  refine wpAny_pure ⟨plainId_quiet PySem.F.plain_extend_loop _, codeAny_extend_loopS (W A.in1.in1 hh).toS hn _ hSf _ x.cps.size 0 _ _ _ rfl (Nat.zero_le _) hst (Heap.get?_push_of_some _ hS₂) (ItemsOf.nil _) fun s' acc' c' hm hS' hacc => ?_⟩
  rw [Moved.eq_with hm]
  refine ⟨rfl, hQ s'.heap s'.toks acc' c' (fun b ob e => hm.heap b ob (fun hb => ?_) (Heap.get?_push_of_some _ (oth b ob e))) hS' hacc⟩
  have hlb := Heap.lt_size e
  rcases List.mem_cons.mp hb with q | q
  · rw [q] at hlb
    exact Nat.lt_irrefl _ hlb
  · rw [List.mem_singleton.mp q] at hlb
    exact absurd (Nat.lt_trans hlb hlt) (Nat.lt_irrefl _)
section
variable {X : Cx} {E : XK}
@[simp] def gList : GA := fun ds M => match ds with
  | [.str z] => if z.length ≤ lineD then .ok (.lst (signs z)) M else .no
  | [.tup xs] => .ok (.lst xs) M
  | [d] => match itemsD d M with
    | some xs => .ok (.lst xs) M
    | none => .no
  | _ => .no
theorem vals_signs : ∀ {us : List Value} {cs : List Nat}, us.length = cs.length → (∀ (j : Nat) (c : Nat) (u : Value), cs[j]? = some c → us[j]? = some u → ∃ t, u = .str ⟨#[c]⟩ t) → Vals (cs.map fun c => V.str ⟨#[c]⟩) us
  | [], [], _, _ => .nil
  | u :: us, c :: cs, hl, h => by
    obtain ⟨t, e⟩ := h 0 c u rfl rfl
    exact .cons ⟨t, e⟩ (vals_signs (by simpa using hl) fun j c' u' h1 h2 => h (j + 1) c' u' (by simpa using h1) (by simpa using h2))
  | [], _ :: _, hl, _ => by simp at hl
  | _ :: _, [], hl, _ => by simp at hl
theorem signs_rep {K : Kf} {μ : List Addr} {H : Hp} : ∀ cs : List Nat, RepAll K μ H (cs.map fun c => V.str ⟨#[c]⟩) (cs.map fun c => D.str ⟨#[c]⟩)
  | [] => .nil
  | c :: cs => .cons (.str _) (signs_rep cs)
theorem c_list (hc : X.calm = true) : CallR X (.type "list") (rA X.K E gList) := by
  intro pins s σ H xs us Q I rv ⟨μ, Hf, Fr, M, ds, rs, sr, p⟩
  unfold gList at p
  split at p
  · rename_i z
    split at p
    · rename_i hz
      cases rs with
      | cons r t =>
        cases t; cases r
        obtain ⟨u, rfl, t, rfl⟩ := vals1 rv
        refine call_list_str (I.ok.hd hc) z t (line_le hz) fun h' tk acc' c' kp hl hi => ?_
        have hf := I.hok.fresh (Nat.le_refl s.heap.objs.size)
        refine ⟨.ref s.heap.objs.size, upd H s.heap.objs.size (.lst (z.cps.toList.map fun c => V.str ⟨#[c]⟩)), ?_, rfl, p.new sr hf fun e => rep_lst (signs_rep _) e⟩
        refine I.laid (t' := tk) kp (Nat.le_refl _) ⟨by rw [List.length_map]; exact line_le hz, acc'.toList, c', ?_, by simpa using hl⟩
        have i1 : acc'.size = z.cps.size := hi.1
        refine vals_signs (by simp [i1]) fun j cc u h1 h2 => ?_
        obtain ⟨c2, t2, g1, g2⟩ := hi.2 j u (by simpa using h2)
        rw [Array.getElem?_toList, g1] at h1
        cases h1
        exact ⟨t2, g2⟩
    · exact p.elim
  · rename_i xs
    cases rs with
    | cons r t =>
      cases t
      cases r with
      | tup q t => exact call_list_of pins s σ H _ us Q I rv ⟨_, _, rfl, .inr (same_t sr.ex q), fun l hl => p.new sr hl fun e => rep_lst t e⟩
  · split at p
    · rename_i xs hx
      cases rs with
      | cons r t =>
        cases t
        obtain ⟨a, vs, rfl, q, t⟩ := items_of sr r hx
        exact call_list_of pins s σ H _ us Q I rv ⟨_, _, rfl, .inl q, fun l hl => p.new sr hl fun e => rep_lst t e⟩
    · exact p.elim
  · exact p.elim
end
end Den
namespace Den
open PySem PySem.Spec PyProof.Rows L2
/-- a def of the module, by its name: what its call hands back -/
structure CalG (P : Program) (w : World) (K : Kf) (mg : Str → Option Value) (base : Heap) (k : Nat) (x : Str) (n : Nat) (g : GA) : Prop where
  ex : ∃ (f : Addr) (fd : FuncData) (ps : List Str), mg x = some (.ref f) ∧ PySem.W.keepIn K (.ref f) = true ∧ Binds K fd ps [] ∧ ps.length = n ∧ FnG P w K mg base CX0 k f fd ps g
section
variable {X : Cx} {E : XK} {a b c e o : Expr} {es rest : List Expr} {fa fb fc F : FE} {ft fu : FT} {fg : FA} {pos : Pos} {k : Nat} {x : Str} {p : Pos} {n : Nat} {g : GA}
theorem de_callN (C : CalG X.prog X.w X.K X.mg X.base k x n g) (hr : Room k X.A) (hgd : X.A.guards = some []) (hg : Gl X x) (ha : DA X E (e :: es) fg) (hdb : (x == ("__debug__" : Str)) = false := by decide)
    (he : starEach (e :: es) X.env = (false, eval e X.env) :: starEach es X.env := by rfl) (hpl : (backTo pos (starEach es X.env)).any (·.1) = false := by rfl) : DE X E (.Call (.Name x p) (e :: es) [] pos) (eCall g [] n fg) := by
  obtain ⟨f, fd, ps, hm, hk, hb, rfl, G⟩ := C.ex
  exact de_call G hr hgd hg hm hk hb .nil dflt_nil (fun _ _ _ _ _ _ _ y => y.elim) ha hdb he hpl
theorem de_ty {T : String} (hg : Gl X x) (hm : X.mg x = none) (hv : bootBuiltins x = some (.type T)) (hn : x ≠ "__name__" := by decide) (hd : (x == ("__debug__" : Str)) = false := by decide) : DE X E (.Name x pos) (fun _ M => .ok (.ty T) M) :=
  de_c (t := tC (.ty T)) (.ty T) (pe_bltn hg hm hv rfl hn hd) fun _ _ => .ty T
/-- a tuple of the module -/
def KTup (K : Kf) (a : Addr) (ds : List D) : Prop := ∀ μ Hf, Rep K μ Hf (.ref a) (.tup ds)
theorem ktup_of {K : Kf} {a : Addr} {o : Obj} {its : Array Value} {n : Nat} {vs : List V} {ds : List D} (h : K.lookup a = some o) (hc : o.cls = .type "tuple") (hd : o.data = .seq its n) (hz : its.size ≤ sizeLine) (r : Vals vs its.toList) (q : ∀ μ Hf, RepAll K μ Hf vs ds) : KTup K a ds :=
  fun μ Hf => .tup (.inr ⟨o, its, n, h, hc, hd, hz, r⟩) (q μ Hf)
theorem de_ktup {u : Addr} {ds : List D} (hg : Gl X x) (hm : X.mg x = some (.ref u)) (h : KTup X.K u ds) (hd : (x == ("__debug__" : Str)) = false := by decide) : DE X E (.Name x pos) (fun _ M => .ok (.tup ds) M) := de_glob hg hm (v := .ref u) rfl h hd
theorem de_kint {i : Int} {t : Tok} (hg : Gl X x) (hm : X.mg x = some (.int i t)) (hd : (x == ("__debug__" : Str)) = false := by decide) : DE X E (.Name x pos) (fun _ M => .ok (.int i) M) := de_glob hg hm (v := .int i) ⟨t, rfl⟩ (fun _ _ => .int i) hd
theorem de_kintE {i : Int} (hg : Gl X x) (hm : ∃ t, X.mg x = some (.int i t)) (hd : (x == ("__debug__" : Str)) = false := by decide) : DE X E (.Name x pos) (fun _ M => .ok (.int i) M) := de_kint hg hm.choose_spec hd
theorem de_ktupE {ds : List D} (hg : Gl X x) (hm : ∃ u, X.mg x = some (.ref u) ∧ KTup X.K u ds) (hd : (x == ("__debug__" : Str)) = false := by decide) : DE X E (.Name x pos) (fun _ M => .ok (.tup ds) M) := de_ktup hg hm.choose_spec.1 hm.choose_spec.2 hd
theorem de_fn {f : Addr} (hg : Gl X x) (hm : X.mg x = some (.ref f)) (hd : (x == ("__debug__" : Str)) = false := by decide) : DE X E (.Name x pos) (fun _ M => .ok (.fn f) M) := de_glob hg hm (v := .ref f) rfl (fun _ _ => .fn f) hd
/-- {text: constant} -/
theorem de_dc1 {kx : Str} {w : V} {d : D} {ke ve : Expr} (hk : PE X ke (tC (.str kx))) (hv : PE X ve (tC w)) (r : ∀ μ Hf, Rep X.K μ Hf w d) : DE X E (.Dict [some ke] [ve] pos) (fun _ M => .ok (.dct [.inr kx] [d]) M) := by
  refine pe_imp (pe_disp (pps_cons hk hv pps_nil) (by rfl) (by rfl) (fun z => by cases z) (by show 1 ≤ 15; decide)) fun σ H Q ⟨μ, Hf, Fr, ρ, M, _, s, z⟩ => ?_
  intro q hq
  refine ⟨upd_same, [(.inr kx, w)], rfl, by show 1 ≤ 15; decide, ?_⟩
  rw [upd_upd]
  exact z.new s hq fun e => .dct upd_same rfl (.cons (r _ _) .nil)
@[simp] def eNeg (F : FE) : FE := fun ρ M => (F ρ M).bind fun d M1 => match d with
  | .int i => .ok (.int (-i)) M1
  | _ => .no
theorem de_neg (h : DE X E a F) : DE X E (.UnaryOp .USub a pos) (eNeg F) := by
  refine pe_imp (pe_un un_neg h) fun σ H Q ⟨μ, Hf, Fr, ρ, M, r, s, p⟩ => ?_
  refine ⟨μ, Hf, Fr, ρ, M, r, s, p.split.weak fun d μ1 Hf1 H1 M1 e1 m1 s1 p1 v rv => ?_⟩
  split at p1
  · cases rv; exact ⟨_, rfl, p1.now s1 _ (.int _)⟩
  · exact p1.elim
end
abbrev eNone : FE := fun _ M => .ok .non M
abbrev eBool (b : Bool) : FE := fun _ M => .ok (.bl b) M
abbrev eInt (i : Int) : FE := fun _ M => .ok (.int i) M
abbrev eStr (x : Str) : FE := fun _ M => .ok (.str x) M
abbrev eTy (x : String) : FE := fun _ M => .ok (.ty x) M
abbrev eFn (f : Addr) : FE := fun _ M => .ok (.fn f) M
abbrev eTupC (ds : List D) : FE := fun _ M => .ok (.tup ds) M
abbrev eD1 (k : Str) (i : Int) : FE := fun _ M => .ok (.dct [.inr k] [.int i]) M
abbrev sBk : FS := fun ρ M => .ok (.bk ρ) M
abbrev sCt : FS := fun ρ M => .ok (.ct ρ) M
abbrev sRetN : FS := fun _ M => .ok (.rt .non) M
@[simp] def eJoin (fa fb : FE) : FE := fun ρ M => (fa ρ M).bind fun x M1 => match x with
  | .str _ => (fb ρ M1).bind fun y M2 => gJoin x y M2
  | _ => .no
theorem GD (A : Around) {env : Env} (h : A.guards = some []) : (A.deeper env).guards = some [] := (deeper_guards A env).trans h
end Den
namespace Den
open PySem PySem.Spec PyProof.Rows L2
/-! ### loops and comprehensions by what holds between two turns -/
theorem loop_inv {g : TgD} {body : FS} (I : Ro → Mem → Prop) : ∀ {xs : List D} {ρ : Ro} {M : Mem}, (∀ d ∈ xs, ∀ ρ M, I ρ M → ∃ ρ1 ρ2 M2, g d ρ = some ρ1 ∧ (body ρ1 M = .ok (.nx ρ2) M2 ∨ body ρ1 M = .ok (.ct ρ2) M2) ∧ I ρ2 M2) → I ρ M →
    ∃ ρ' M', loopD g body xs ρ M = .ok (.nx ρ') M' ∧ I ρ' M'
  | [], ρ, M, _, h0 => ⟨ρ, M, rfl, h0⟩
  | d :: ds, ρ, M, h, h0 => by
    obtain ⟨ρ1, ρ2, M2, e1, e2, h2⟩ := h d List.mem_cons_self ρ M h0
    obtain ⟨ρ', M', e3, h3⟩ := loop_inv I (xs := ds) (fun d hd => h d (List.mem_cons_of_mem _ hd)) h2
    refine ⟨ρ', M', ?_, h3⟩
    unfold loopD
    rw [e1]
    rcases e2 with e2 | e2 <;> (dsimp only; rw [e2]; exact e3)
theorem loop_invN {g : TgD} {body : FS} (I : Nat → Ro → Mem → Prop) : ∀ {xs : List D} {ρ : Ro} {M : Mem} (k : Nat), (∀ i d, xs[i]? = some d → ∀ ρ M, I (k + i) ρ M → ∃ ρ1 ρ2 M2, g d ρ = some ρ1 ∧ (body ρ1 M = .ok (.nx ρ2) M2 ∨ body ρ1 M = .ok (.ct ρ2) M2) ∧ I (k + i + 1) ρ2 M2) → I k ρ M →
    ∃ ρ' M', loopD g body xs ρ M = .ok (.nx ρ') M' ∧ I (k + xs.length) ρ' M'
  | [], ρ, M, k, _, h0 => ⟨ρ, M, rfl, h0⟩
  | d :: ds, ρ, M, k, h, h0 => by
    obtain ⟨ρ1, ρ2, M2, e1, e2, h2⟩ := h 0 d rfl ρ M h0
    obtain ⟨ρ', M', e3, h3⟩ := loop_invN I (xs := ds) (k + 1) (fun i d hd ρ M hi => by
      have := h (i + 1) d (by simpa using hd) ρ M (by rw [show k + (i + 1) = k + 1 + i by omega]; exact hi)
      rw [show k + (i + 1) = k + 1 + i by omega] at this
      exact this) h2
    refine ⟨ρ', M', ?_, by rw [List.length_cons, show k + (ds.length + 1) = k + 1 + ds.length by omega]; exact h3⟩
    unfold loopD
    rw [e1]
    rcases e2 with e2 | e2 <;> (dsimp only; rw [e2]; exact e3)
theorem lcD_inv {g : TgD} {t : FT} {f : FE} {ρ : Ro} (I : Mem → Prop) (P : D → Prop) : ∀ {xs : List D} {M : Mem}, (∀ d ∈ xs, ∀ M, I M → ∃ ρ1 b M1, g d ρ = some ρ1 ∧ t ρ1 M = .ok b M1 ∧ I M1 ∧ (b = true → ∃ y M2, f ρ1 M1 = .ok y M2 ∧ P y ∧ I M2)) → I M →
    ∃ ys M', lcD g t f ρ xs M = .ok ys M' ∧ (∀ y ∈ ys, P y) ∧ I M' ∧ ys.length ≤ xs.length
  | [], M, _, h0 => ⟨[], M, rfl, fun _ h => (nomatch h), h0, Nat.le_refl _⟩
  | d :: ds, M, h, h0 => by
    obtain ⟨ρ1, b, M1, e1, e2, h1, hb⟩ := h d List.mem_cons_self M h0
    have hr := fun M => lcD_inv (g := g) (t := t) (f := f) (ρ := ρ) I P (xs := ds) (M := M) fun d hd => h d (List.mem_cons_of_mem _ hd)
    cases b with
    | false =>
      obtain ⟨ys, M', e3, p3, i3, l3⟩ := hr M1 h1
      refine ⟨ys, M', ?_, p3, i3, Nat.le_succ_of_le l3⟩
      unfold lcD
      rw [e1]
      dsimp only
      rw [e2]
      exact e3
    | true =>
      obtain ⟨y, M2, e4, p4, i4⟩ := hb rfl
      obtain ⟨ys, M', e3, p3, i3, l3⟩ := hr M2 i4
      refine ⟨y :: ys, M', ?_, fun z hz => ?_, i3, Nat.succ_le_succ l3⟩
      · unfold lcD
        rw [e1]
        dsimp only
        rw [e2]
        simp only [Out.noX, Out.bind_ok, if_pos]
        rw [e4]
        simp only [Out.noX, Out.bind_ok]
        rw [e3]
        rfl
      · rcases List.mem_cons.mp hz with q | q
        · rw [q]; exact p4
        · exact p3 z q
/-- a comprehension whose turns change nothing: a filter, then a map -/
theorem lcD_pure {g : TgD} {t : FT} {f : FE} {ρ : Ro} {M : Mem} (p : D → Bool) (v : D → D) : ∀ {xs : List D}, (∀ d ∈ xs, ∃ ρ1, g d ρ = some ρ1 ∧ t ρ1 M = .ok (p d) M ∧ (p d = true → f ρ1 M = .ok (v d) M)) →
    lcD g t f ρ xs M = .ok ((xs.filter p).map v) M
  | [], _ => rfl
  | d :: ds, h => by
    obtain ⟨ρ1, e1, e2, e3⟩ := h d List.mem_cons_self
    have ih := lcD_pure (g := g) (t := t) (f := f) (ρ := ρ) (M := M) p v (xs := ds) fun d hd => h d (List.mem_cons_of_mem _ hd)
    unfold lcD
    rw [e1]
    dsimp only
    rw [e2]
    cases hp : p d with
    | false =>
      simp only [Out.noX, Out.bind_ok, List.filter_cons, hp]
      exact ih
    | true =>
      simp only [Out.noX, Out.bind_ok, if_pos, List.filter_cons, hp]
      rw [e3 hp]
      simp only [Out.noX, Out.bind_ok]
      rw [ih]
      rfl
/-! ### how numbers are reckoned -/
theorem mul_ok {i j : Int} {M : Mem} (h : mulC i j) : gMul (.int i) (.int j) M = .ok (.int (i * j)) M := if_pos h
theorem div_ok {i j : Int} {M : Mem} (h : CDivW i j) : gDiv (.int i) (.int j) M = .ok (.int (i / j)) M := if_pos h
theorem mod_ok {i j : Int} {M : Mem} (h : 0 < j) : gMod (.int i) (.int j) M = .ok (.int (i % j)) M := if_pos h
theorem pow_ok {i j : Int} {M : Mem} (h : powC i j) : gPow (.int i) (.int j) M = .ok (.int (i ^ j.toNat)) M := if_pos h
/-! ### texts by their signs -/
abbrev cs (z : Str) : List Nat := z.cps.toList
theorem cs_app (a b : Str) : cs (a ++ b) = cs a ++ cs b := by
  show (Str.append a b).cps.toList = _
  simp [Str.append, cs]
theorem cs_len (z : Str) : z.length = (cs z).length := by simp [Str.length, cs]
theorem cs_cut (z : Str) (lo hi : Option Int) : cs (cutS z lo hi) = cutD (cs z) lo hi := by
  unfold cutS cutD cs
  simp [Str.length]
theorem cut_len {α : Type} (xs : List α) (lo hi : Option Int) : (cutD xs lo hi).length ≤ xs.length := by
  unfold cutD
  rw [List.length_take, List.length_drop]
  omega
theorem cut_mem {α : Type} {xs : List α} {lo hi : Option Int} {x : α} (h : x ∈ cutD xs lo hi) : x ∈ xs := List.mem_of_mem_drop (List.mem_of_mem_take h)
theorem cs_join {sep : Str} (hs : cs sep = []) : ∀ ys : List Str, cs (Txt.join sep ys) = (ys.map cs).flatten := by
  intro ys
  rw [TL.join_eq]
  induction ys with
  | nil => rfl
  | cons x r ih =>
    cases r with
    | nil => simp [Str.join]
    | cons y r =>
      show cs (x ++ sep ++ Str.join sep (y :: r)) = _
      rw [cs_app, cs_app, hs, ih]
      simp
theorem mul_l {i j : Int} (h : -(2 ^ 64) < i ∧ i < 2 ^ 64) : mulC i j := .inl (.inl h)
theorem mul_r {i j : Int} (h : -(2 ^ 64) < j ∧ j < 2 ^ 64) : mulC i j := .inl (.inr h)
end Den
/-! Den11: lists that change (append, pop, list(...)), text[::-1], text.upper(), is of bools, three names at once. -/
namespace Den
open PySem PySem.Spec PyProof.Rows L2
section
variable {X : Cx} {E : XK} {a b c e o : Expr} {es : List Expr} {fa fb fc F : FE} {fg : FA} {pos : Pos} {st : Stmt}
/-! ### is, is not of bools -/
@[simp] def gIsB (f : Bool → Bool) : G2 := fun x y M => match x, y with
  | .bl a, .bl b => .ok (.bl (f (decide (a = b)))) M
  | _, _ => .no
theorem o_isB : OpR X (compareOp .Is) (rD2 X.K E (gIsB fun b => b)) := by
  refine opr_imp op_isBl fun x y H Q ⟨μ, Hf, Fr, M, d1, d2, r1, r2, s, p⟩ => ?_
  unfold gIsB at p
  split at p
  · cases r1; cases r2; exact ⟨_, _, rfl, rfl, p.now s _ (.bl _)⟩
  · exact p.elim
theorem o_isnotB : OpR X (compareOp .IsNot) (rD2 X.K E (gIsB fun b => !b)) := by
  refine opr_imp op_notBl fun x y H Q ⟨μ, Hf, Fr, M, d1, d2, r1, r2, s, p⟩ => ?_
  unfold gIsB at p
  split at p
  · cases r1; cases r2; exact ⟨_, _, rfl, rfl, p.now s _ (.bl _)⟩
  · exact p.elim
/-! ### three names at once -/
@[simp] def sPar3 (i j l : Nat) (fg : FA) : FS := fun ρ M => (fg ρ M).bind fun ds M1 => match ds with
  | [x, y, z] => .ok (.nx (((ρ.set i (some x)).set j (some y)).set l (some z))) M1
  | _ => .no
theorem ds_par3 {i j l : Nat} (h : PS X st (tPar3 i j l (taF X.K E fg))) : DS X E st (sPar3 i j l fg) := by
  refine ps_imp h fun N σ H ⟨μ, Hf, Fr, ρ, M, r, s, p⟩ => ?_
  refine ⟨μ, Hf, Fr, ρ, M, r, s, p.split.weak fun ds μ1 Hf1 H1 M1 e1 m1 s1 p1 vs rs => ?_⟩
  split at p1
  · cases rs with
    | cons r1 t => cases t with
      | cons r2 t => cases t with
        | cons r3 t => cases t; exact ⟨_, _, _, rfl, p1.now s1 _ ((((r.mono e1 m1).put i r1).put j r2).put l r3)⟩
  · exact p1.elim
/-! ### text.upper() -/
@[simp] def eUpper (F : FE) : FE := fun ρ M => (F ρ M).bind fun x M1 => match x with
  | .str z => if z.length ≤ lineD then .ok (.str (Txt.upper z)) M1 else .no
  | _ => .no
theorem de_upper {apos : Pos} (ho : DE X E o F) (hbase : attributeBase o "upper" X.env (eval o X.env) = eval o X.env := by rfl) (hline : (apos.endLine == pos.line) = true := by rfl) :
    DE X E (.Call (.Attribute o "upper" apos) [] [] pos) (eUpper F) := by
  refine pe_imp (pe_upper ho hbase hline) fun σ H Q ⟨μ, Hf, Fr, ρ, M, r, s, p⟩ => ?_
  refine ⟨μ, Hf, Fr, ρ, M, r, s, p.split.weak fun x μ1 Hf1 H1 M1 e1 m1 s1 p1 v1 r1 => ?_⟩
  split at p1
  · split at p1
    · rename_i hz
      cases r1
      exact ⟨⟨_, rfl⟩, _, rfl, rfl, Nat.le_trans hz (by unfold lineD; decide), p1.now s1 _ (.str _)⟩
    · exact p1.elim
  · exact p1.elim
/-! ### list.append, list.pop -/
theorem RepAll.snoc {K : Kf} {μ : List Addr} {H : Hp} {v : V} {d : D} (r : Rep K μ H v d) : ∀ {vs : List V} {ds : List D}, RepAll K μ H vs ds → RepAll K μ H (vs ++ [v]) (ds ++ [d])
  | _, _, .nil => .cons r .nil
  | _, _, .cons q t => .cons q (RepAll.snoc r t)
@[simp] def gAppend (o d : D) (M : Mem) : Out D := match o with
  | .loc n => match M[n]? with
    | some (some xs) => if xs.length + 1 ≤ lineD then .ok .non (M.set n (some (xs ++ [d]))) else .no
    | _ => .no
  | _ => .no
@[simp] def locOk (o : D) (M : Mem) : Bool := match o with
  | .loc n => match M[n]? with
    | some (some _) => true
    | _ => false
  | _ => false
@[simp] def eAppend (fo fa : FE) : FE := fun ρ M => (fo ρ M).bind fun o M1 => if locOk o M1 = true then (fa ρ M1).bind fun d M2 => gAppend o d M2 else .no
@[simp] def gPop (o i : D) (M : Mem) : Out D := match o, i with
  | .loc n, .int k => match M[n]? with
    | some (some xs) => if -1000000 ≤ k ∧ k ≤ 1000000 then match ixN xs.length k with
      | some j => match xs[j]? with
        | some d => .ok d (M.set n (some (xs.eraseIdx j)))
        | none => .no
      | none => .no
      else .no
    | _ => .no
  | _, _ => .no
@[simp] def ePop (fo fa : FE) : FE := fun ρ M => (fo ρ M).bind fun o M1 => if locOk o M1 = true then (fa ρ M1).bind fun d M2 => gPop o d M2 else .no
/-- the value of a changing list, known by its number, stays so behind whatever the argument does, if the number still is one -/
theorem loc_list {K : Kf} {μ : List Addr} {Hf Fr H : Hp} {M : Mem} {n : Nat} {xs : List D} {v : V} (s : SR K μ Hf Fr H M) (hM : M[n]? = some (some xs)) (r : Rep K μ Hf v (.loc n)) :
    ∃ a vs, v = .ref a ∧ μ[n]? = some a ∧ H a = some (.lst vs) ∧ RepAll K μ Hf vs xs := by
  cases r with
  | loc q =>
    obtain ⟨a, vs, h1, h2, h3, h4, h5⟩ := s.cell _ _ hM
    rw [q] at h1; cases h1
    exact ⟨_, _, rfl, q, h4, h5⟩
theorem locOk_ty {K : Kf} {μ : List Addr} {Hf Fr H : Hp} {M : Mem} {v : V} {d : D} (s : SR K μ Hf Fr H M) (r : Rep K μ Hf v d) (h : locOk d M = true) : tyV K "list" v H := by
  unfold locOk at h
  split at h
  · split at h
    · rename_i xs hM
      obtain ⟨a, vs, rfl, _, q, _⟩ := loc_list s hM r
      exact .inl ⟨rfl, _, SqL.of q⟩
    · cases h
  · cases h
theorem de_append {apos : Pos} (ho : DE X E o fa) (ha : DE X E e fb)
    (hbase : attributeBase o "append" X.env (eval o X.env) = eval o X.env := by rfl)
    (hfew : ((backTo pos (starEach [e] X.env)).all (fun x => !x.1) && (backToKw pos (keywordEach [] X.env)).all (fun x => x.1.isSome)
      && decide ([e].length + ([] : List Keyword).length + (if ([] : List Keyword).isEmpty then 0 else 1) < 30)) = true := by rfl)
    (hline : (apos.endLine == pos.line) = true := by rfl) (hs : starEach [e] X.env = (false, eval e X.env) :: starEach [] X.env := by rfl) (hplain : (backTo pos (starEach [] X.env)).any (·.1) = false := by rfl) :
    DE X E (.Call (.Attribute o "append" apos) [e] [] pos) (eAppend fa fb) := by
  refine pe_imp (pe_bm PySem.F.plainAttrs_list PySem.F.slot_list_append PySem.F.type_list_append mt_append ho (pa_cons ha pa_nil hs) hbase hfew hline hs hplain) fun σ H Q ⟨μ, Hf, Fr, ρ, M, r, s, p⟩ => ?_
  refine ⟨μ, Hf, Fr, ρ, M, r, s, p.split.weak fun x μ1 Hf1 H1 M1 e1 m1 s1 p1 v1 r1 => ?_⟩
  split at p1
  · rename_i hk
    refine ⟨locOk_ty s1 r1 hk, μ1, Hf1, Fr, ρ, M1, r.mono e1 m1, s1, p1.split.weak fun y μ2 Hf2 H2 M2 e2 m2 s2 p2 v2 r2 => ?_⟩
    unfold gAppend at p2
    split at p2
    · split at p2
      · rename_i n _ xs hM
        split at p2
        · rename_i hz
          obtain ⟨a, vs, rfl, ha, q, t⟩ := loc_list s2 hM (Rep.mono e2 m2 _ _ r1)
          refine ⟨a, vs, v2, rfl, rfl, q, ?_, p2.now (s2.turn hM ha (t.snoc r2)) _ .non⟩
          have := line_le hz
          rw [t.length]
          omega
        · exact p2.elim
      · exact p2.elim
    · exact p2.elim
  · exact p1.elim
theorem de_pop {apos : Pos} (ho : DE X E o fa) (ha : DE X E e fb)
    (hbase : attributeBase o "pop" X.env (eval o X.env) = eval o X.env := by rfl)
    (hfew : ((backTo pos (starEach [e] X.env)).all (fun x => !x.1) && (backToKw pos (keywordEach [] X.env)).all (fun x => x.1.isSome)
      && decide ([e].length + ([] : List Keyword).length + (if ([] : List Keyword).isEmpty then 0 else 1) < 30)) = true := by rfl)
    (hline : (apos.endLine == pos.line) = true := by rfl) (hs : starEach [e] X.env = (false, eval e X.env) :: starEach [] X.env := by rfl) (hplain : (backTo pos (starEach [] X.env)).any (·.1) = false := by rfl) :
    DE X E (.Call (.Attribute o "pop" apos) [e] [] pos) (ePop fa fb) := by
  refine pe_imp (pe_bm PySem.F.plainAttrs_list PySem.F.slot_list_pop PySem.F.type_list_pop mt_popAt ho (pa_cons ha pa_nil hs) hbase hfew hline hs hplain) fun σ H Q ⟨μ, Hf, Fr, ρ, M, r, s, p⟩ => ?_
  refine ⟨μ, Hf, Fr, ρ, M, r, s, p.split.weak fun x μ1 Hf1 H1 M1 e1 m1 s1 p1 v1 r1 => ?_⟩
  split at p1
  · rename_i hk
    refine ⟨locOk_ty s1 r1 hk, μ1, Hf1, Fr, ρ, M1, r.mono e1 m1, s1, p1.split.weak fun y μ2 Hf2 H2 M2 e2 m2 s2 p2 v2 r2 => ?_⟩
    unfold gPop at p2
    split at p2
    · split at p2
      · rename_i n k _ xs hM
        split at p2
        · rename_i hz
          split at p2
          · rename_i j hj
            split at p2
            · rename_i d hd
              obtain ⟨a, vs, rfl, ha, q, t⟩ := loc_list s2 hM (Rep.mono e2 m2 _ _ r1)
              cases r2
              obtain ⟨w, hw, rw⟩ := t.at hd
              refine ⟨a, vs, k, j, w, rfl, rfl, q, by omega, by omega, by rw [t.length]; exact (ixN_seq hj).1, hw, p2.now (s2.turn hM ha (t.erase j)) _ rw⟩
            · exact p2.elim
          · exact p2.elim
        · exact p2.elim
      · exact p2.elim
    · exact p2.elim
  · exact p1.elim
/-! ### list(...) as a list that may change -/
@[simp] def gListM : GA := fun ds M => match ds with
  | [.str z] => if z.length ≤ lineD then .ok (.loc M.length) (M ++ [some (signs z)]) else .no
  | [.tup xs] => .ok (.loc M.length) (M ++ [some xs])
  | [d] => match itemsD d M with
    | some xs => .ok (.loc M.length) (M ++ [some xs])
    | none => .no
  | _ => .no
theorem c_listM (hc : X.calm = true) : CallR X (.type "list") (rA X.K E gListM) := by
  intro pins s σ H xs us Q I rv ⟨μ, Hf, Fr, M, ds, rs, sr, p⟩
  unfold gListM at p
  split at p
  · rename_i z
    split at p
    · rename_i hz
      cases rs with
      | cons r t =>
        cases t; cases r
        obtain ⟨u, rfl, t, rfl⟩ := vals1 rv
        refine call_list_str (I.ok.hd hc) z t (line_le hz) fun h' tk acc' c' kp hl hi => ?_
        have hf := I.hok.fresh (Nat.le_refl s.heap.objs.size)
        refine ⟨.ref s.heap.objs.size, upd H s.heap.objs.size (.lst (z.cps.toList.map fun c => V.str ⟨#[c]⟩)), ?_, rfl, p.newLoc sr hf (signs_rep _)⟩
        refine I.laid (t' := tk) kp (Nat.le_refl _) ⟨by rw [List.length_map]; exact line_le hz, acc'.toList, c', ?_, by simpa using hl⟩
        have i1 : acc'.size = z.cps.size := hi.1
        refine vals_signs (by simp [i1]) fun j cc u h1 h2 => ?_
        obtain ⟨c2, t2, g1, g2⟩ := hi.2 j u (by simpa using h2)
        rw [Array.getElem?_toList, g1] at h1
        cases h1
        exact ⟨t2, g2⟩
    · exact p.elim
  · rename_i xs
    cases rs with
    | cons r t =>
      cases t
      cases r with
      | tup q t => exact call_list_of pins s σ H _ us Q I rv ⟨_, _, rfl, .inr (same_t sr.ex q), fun l hl => p.newLoc sr hl t⟩
  · split at p
    · rename_i xs hx
      cases rs with
      | cons r t =>
        cases t
        obtain ⟨a, vs, rfl, q, t⟩ := items_of sr r hx
        exact call_list_of pins s σ H _ us Q I rv ⟨_, _, rfl, .inl q, fun l hl => p.newLoc sr hl t⟩
    · exact p.elim
  · exact p.elim
/-! ### text[::-1] -/
def backS (z : Str) : Str := ⟨z.cps.toList.reverse.toArray⟩
theorem rev_idx (n : Nat) : Builtin.Str.strSliceIndices none none (-1) n = (List.range n).reverse := by
  unfold Builtin.Str.strSliceIndices
  show sliceRange ((n : Int) - 1) (-1) (-1) = _
  rw [PySem.W.krv_sliceRange, PySem.W.krv_range]
theorem rev_pick (z : Str) : ((Builtin.Str.strSliceIndices none none (-1) z.length).filterMap (z.cps[·]?)).toArray = (backS z).cps := by
  rw [rev_idx, List.filterMap_reverse]
  show ((List.range z.cps.size).filterMap (z.cps[·]?)).reverse.toArray = _
  rw [PySem.W.krv_all]
  rfl
@[simp] def eRev (F : FE) : FE := fun ρ M => (F ρ M).bind fun x M1 => match x with
  | .str z => if z.length ≤ lineD then .ok (.str (backS z)) M1 else .no
  | _ => .no
def tRevS (te : TE) : TE := fun σ H Q => te σ H fun x H1 => ∃ z, x = .str z ∧ z.length ≤ sizeLine ∧ Q (.str (backS z)) H1
theorem pe_revS {e : Expr} {te : TE} {k : Nat} {p1 p2 p3 pos : Pos} (he : PE X e te) : PE X (.Subscript e (.Slice none none (some (.UnaryOp .USub (.Constant (.int 1) k p1) p2)) p3) pos) (tRevS te) := by
  refine ⟨fun pins s σ H Q I h => ?_⟩
  refine Subscript_ (thn (he.run pins s σ H _ I h) fun v s1 ⟨x, H1, I1, r1, q1⟩ => ?_)
  obtain ⟨z, ex, hz, q⟩ := q1
  subst ex
  obtain ⟨t, rfl⟩ := r1
  have hst : PO X (some (.UnaryOp .USub (.Constant (.int 1) k p1) p2)) (tPart (tUn (rU fun i => .int (-i)) (tC (.int 1)))) := po_some (pe_un un_neg pe_int)
  refine wpAny_Slice (thn (po_none.run pins s1 σ H1 (fun o H2 => o = none ∧ H2 = H1) I1 ⟨rfl, rfl⟩) fun vl s2 ⟨l, H2, I2, pl, el, e2⟩ => ?_)
  subst el e2
  refine thn (po_none.run pins s2 σ H2 (fun o H3 => o = none ∧ H3 = H2) I2 ⟨rfl, rfl⟩) fun vu s3 ⟨u, H3, I3, pu, eu, e3⟩ => ?_
  subst eu e3
  refine thn (hst.run pins s3 σ H3 (fun o H4 => o = some (-1) ∧ H4 = H3) I3 ⟨1, rfl, -1, rfl, rfl, rfl⟩) fun vs s4 ⟨o, H4, I4, ps, eo, e4⟩ => ?_
  subst eo e4
  have I5 : Inv X pins σ H4 { s4 with heap := s4.heap.push { cls := .type "slice", data := .fields #[vl, vu, vs] } } := I4.kept (t' := s4.toks) fun b ob q => Heap.get?_push_of_some _ q
  obtain ⟨l, rfl, hl⟩ := IsPart.raw pl
  obtain ⟨u, rfl, hu⟩ := IsPart.raw pu
  obtain ⟨w, rfl, hw⟩ := IsPart.raw ps
  show wpAny (model X.prog X.w) X.A (subscriptTail e (.Slice none none (some (.UnaryOp .USub (.Constant (.int 1) k p1) p2)) p3) (.str z t) (.ref s4.heap.objs.size)) (EP X pins σ Q) X.xe _
  refine tail_any (ops := [.str z t, .ref s4.heap.objs.size]) (typeIs_str _ _ _) F.slot_str_getitem.lookup ?_ (by with_unfolding_all rfl)
  refine wpAny_getItem_str_slice (l := l) (u := u) (st := w) ⟨_, Heap.get?_push_size _ rfl, rfl, rfl⟩ ?_ ?_
  · rw [hw]; rfl
  · have e1 : sliceMade z t l u w = Made.str (backS z) := by
      have e2 : slicePicked z l u w = Builtin.Str.strSliceIndices none none (-1) z.length := by
        unfold slicePicked
        rw [hl, hu, hw]
        rfl
      unfold sliceMade
      rw [hw, if_neg (by simp), e2, rev_pick]
    rw [e1]
    refine ⟨?_, .str _, H4, I5.tok _, ⟨_, rfl⟩, q⟩
    have : (backS z).length = z.length := by
      show z.cps.toList.reverse.toArray.size = z.cps.size
      simp
    rw [this]
    exact hz
theorem de_rev {k : Nat} {p1 p2 p3 : Pos} (he : DE X E e F) : DE X E (.Subscript e (.Slice none none (some (.UnaryOp .USub (.Constant (.int 1) k p1) p2)) p3) pos) (eRev F) := by
  refine pe_imp (pe_revS he) fun σ H Q ⟨μ, Hf, Fr, ρ, M, r, s, p⟩ => ?_
  refine ⟨μ, Hf, Fr, ρ, M, r, s, p.split.weak fun x μ1 Hf1 H1 M1 e1 m1 s1 p1 v1 r1 => ?_⟩
  split at p1
  · split at p1
    · rename_i hz
      cases r1
      exact ⟨_, rfl, line_le hz, p1.now s1 _ (.str _)⟩
    · exact p1.elim
  · exact p1.elim
end
end Den
namespace Den
open PySem PySem.Spec PyProof.Rows L2
/-! ### a dict against a text, None -/
open PySem.SeqAt in
theorem dict_declines (l : Addr) (o : Obj) (v : Value) (T : String) (hr : ∀ s : Shared, s.TypeIs v T) (hT : isSubtype (.type T) (.type "dict") = pure false) :
  Meets (Builtin.«dict.__eq__» { pos := [Value.ref l, v] }) fun _ R s =>
    (s.heap.get? l = some o ∧ o.cls = .type "dict") ∧ R (Except.ok (Flow.ret Value.notImplemented)) s := by
  refine Meets.of_wp fun prog w A R s h => ?_
  obtain ⟨⟨hl, hc⟩, h⟩ := h
  wp_delta
  wp_delta
  refine wpAny_bind ?_
  unfold Builtin.Dict.dictSlotArgs
  refine wpAny_bind (wpAny_notOrdered_dict ⟨o, hl, hc⟩ ?_)
  refine wpAny_bind ?_
  unfold slotArgs
  refine wpAny_ite_false rfl (wpAny_ite_false rfl (wpAny_pure (wpAny_pure ?_)))
  refine wpAny_bind (wpAny_isInstance (b := false) (hr s) hT ?_)
  refine wpAny_ite_true rfl ?_
  exact wpAny_bind (wpAny_rule (wpAny_pure ⟨_, rfl, h⟩))
open PySem.SeqAt in
theorem str_declines (b : Str) (u : Tok) (l : Addr) (o : Obj) : Meets (Builtin.«str.__eq__» { pos := [Value.str b u, Value.ref l] }) fun _ R s =>
    (s.heap.get? l = some o ∧ ∃ es n, o.data = .dict es n) ∧ R (Except.ok (Flow.ret Value.notImplemented)) s := by
  refine Meets.of_wp fun prog w A R s h => ?_
  obtain ⟨⟨hl, hd0⟩, h⟩ := h
  wp_delta
  unfold Builtin.Str.strCompare
  refine wpAny_bind (wpAny_bind ?_)
  unfold slotArgs
  refine wpAny_ite_false rfl (wpAny_ite_false rfl (wpAny_pure (wpAny_bind ?_)))
  unfold Builtin.Str.textOf
  refine wpAny_bind (wpAny_pure (wpAny_pure (wpAny_pure (wpAny_bind ?_))))
  refine wpAny_bind (wpAny_load hl ?_)
  obtain ⟨es, n, hd⟩ := hd0
  rw [hd]
  exact wpAny_pure (wpAny_bind (wpAny_rule (wpAny_pure ⟨_, rfl, h⟩)))
open PySem.SeqAt in
theorem eqAt_str_dict {A : Around} {s : Shared} {l : Addr} {o : Obj} (b : Str) (u : Tok) (ho : s.heap.get? l = some o) (hc : o.cls = .type "dict") (hd0 : ∃ es n, o.data = .dict es n) (hu : A.units < cLine) : EqAt A s (Value.str b u) (Value.ref l) false := by
  intro prog w E Q h
  refine wpAny_holding (wpAny_ite_split (fun hab => absurd (eq_of_beq hab) fun a => nomatch a) fun x => wpAny_bind ?_)
  refine rc_eq_decline_or (k := false) (typeIs_str s b u) ⟨o, ho, hc⟩ (by decide) F.sub_dict_str F.slot_str_eq F.slot_dict_eq_refl (fun Q' hq => ?_) (fun Q' hq => ?_) (fun Q' hq => wpAny_of_eq rfl hq) (Or.inr hu) ?_
  · exact call_meets F.slot_str_eq (typeIs_str s b u) F.entry_str_eq (F.args_str_eq_2 _ _) (str_declines b u l o) ⟨⟨ho, hd0⟩, hq⟩
  · exact call_meets F.slot_dict_eq_refl ⟨o, ho, hc⟩ F.entry_dict_eq (F.args_dict_eq_2 _ _) (dict_declines l o (.str b u) "str" (fun s => typeIs_str s b u) F.sub_str_dict) ⟨⟨ho, hc⟩, hq⟩
  · exact wpAny_truthy_bool h
open PySem.SeqAt in
theorem eqAt_none_dict {A : Around} {s : Shared} {l : Addr} {o : Obj} (ho : s.heap.get? l = some o) (hc : o.cls = .type "dict") (hu : A.units < cLine) : EqAt A s Value.none (Value.ref l) false := by
  intro prog w E Q h
  refine wpAny_holding (wpAny_ite_split (fun hab => absurd (eq_of_beq hab) fun a => nomatch a) fun x => wpAny_bind ?_)
  refine rc_eq_decline_or (k := false) rfl ⟨o, ho, hc⟩ (by decide) F.sub_dict_NoneType F.slot_NoneType_eq F.slot_dict_eq_refl (fun Q' hq => ?_) (fun Q' hq => ?_) (fun Q' hq => wpAny_of_eq rfl hq) (Or.inr hu) ?_
  · exact call_gives F.slot_NoneType_eq rfl F.entry_NoneType_eq (F.args_NoneType_eq_2 _ _) (NoneType___eq___none_ref_0 l) hq
  · exact call_meets F.slot_dict_eq_refl ⟨o, ho, hc⟩ F.entry_dict_eq (F.args_dict_eq_2 _ _) (dict_declines l o .none "NoneType" (fun s => rfl) F.sub_NoneType_dict) ⟨⟨ho, hc⟩, hq⟩
  · exact wpAny_truthy_bool h
section
variable {X : Cx} {pins : List (Addr × Obj)} {σ : L2.St} {H : Hp} {s : Shared} {a : Addr} {E : XK}
theorem tup_at {xs : List V} (I : Inv X pins σ H s) (h : SqT X.K H a xs) : ∃ us : Array Value, s.heap.IsTuple a us ∧ Vals xs us.toList := by
  rcases h with (z | ⟨o, z⟩) | ⟨o, its, n, z, c, d, l, r⟩
  · obtain ⟨hl, us, rv, o, hg, hc, n, hd⟩ := I.hok a _ z
    exact ⟨us.toArray, ⟨o, hg, hc, n, hd⟩, by simpa using rv⟩
  · obtain ⟨hg, hl, us, rv, o, hg2, hc, n, hd⟩ := I.hok a _ z
    exact ⟨us.toArray, ⟨o, hg2, hc, n, hd⟩, by simpa using rv⟩
  · exact ⟨its, ⟨o, I.kIn a o z, c, n, d⟩, r⟩
theorem lst_at {xs : List V} (I : Inv X pins σ H s) (h : H a = some (.lst xs)) : ∃ us : Array Value, s.heap.IsList a us ∧ Vals xs us.toList := by
  obtain ⟨hl, us, n, rv, hg⟩ := I.hok a _ h
  exact ⟨us.toArray, ⟨_, hg, rfl, n, rfl⟩, by simpa using rv⟩
theorem dct_at {kvs : List (L2.Key × V)} (I : Inv X pins σ H s) (h : H a = some (.dK kvs)) : ∃ o, s.heap.get? a = some o ∧ o.cls = .type "dict" ∧ ∃ es n, o.data = .dict es n := by
  obtain ⟨hs, hl, kv, _, o, es, ep, hg, he, hd, _⟩ := I.hok a _ h
  exact ⟨o, hg, he.1, es, ep, hd⟩
@[simp] def vOk : V → Bool
  | .non => true | .str _ => true | _ => false
@[simp] def dOk : D → Bool
  | .non => true | .str _ => true | _ => false
@[simp] def nflat : D → Bool
  | .lst _ => true | .tup _ => true | .dct _ _ => true | _ => false
def Big (K : Kf) (H : Hp) (a : Addr) : Prop := (∃ l, H a = some (.lst l)) ∨ (∃ l, SqT K H a l) ∨ ∃ kvs, H a = some (.dK kvs)
theorem in1_units (A : Around) : A.in1.units = A.units + 1 := by first | rfl | simp [Around.in1, Around.units]
theorem eqAt_big {A : Around} (hu : A.units < cLine) (I : Inv X pins σ H s) (h : Big X.K H a) {z : V} {y : Value} (rz : RelV z y) (hz : vOk z = true) : SeqAt.EqAt A s y (.ref a) false := by
  have two : y = .none ∨ ∃ b u, y = .str b u := by
    cases z with
    | non => exact .inl rz
    | str b => obtain ⟨t, e⟩ := rz; exact .inr ⟨b, t, e⟩
    | _ => cases hz
  rcases h with ⟨l, h⟩ | ⟨l, h⟩ | ⟨kvs, h⟩
  · obtain ⟨us, hl, _⟩ := lst_at I h
    rcases two with rfl | ⟨b, u, rfl⟩
    · exact SeqAt.EqAt.none_list hl hu
    · exact SeqAt.EqAt.str_list b u hl hu
  · obtain ⟨us, hl, _⟩ := tup_at I h
    rcases two with rfl | ⟨b, u, rfl⟩
    · exact SeqAt.EqAt.none_tuple hl hu
    · exact SeqAt.EqAt.str_tuple b u hl hu
  · obtain ⟨o, ho, hc, hd⟩ := dct_at I h
    rcases two with rfl | ⟨b, u, rfl⟩
    · exact eqAt_none_dict ho hc hu
    · exact eqAt_str_dict b u ho hc hd hu
theorem vals_mem : ∀ {xs : List V} {us : List Value}, Vals xs us → ∀ y ∈ us, ∃ z ∈ xs, RelV z y
  | _, _, .nil, y, h => by cases h
  | _, _, .cons r t, y, h => by
    rcases List.mem_cons.mp h with rfl | h
    · exact ⟨_, List.mem_cons_self, r⟩
    · obtain ⟨z, h1, h2⟩ := vals_mem t y h
      exact ⟨z, List.mem_cons_of_mem _ h1, h2⟩
theorem op_inB (hu : X.A.units + 64 < cLine) : OpR X (compareOp .In) (fun x y H Q => ∃ a p xs, x = .ref a ∧ y = .ref p ∧ SqT X.K H p xs ∧ xs.all vOk = true ∧ Big X.K H a ∧ Q (.bl false) H) := by
  rintro pins s σ H x y v u Q I rx ry ⟨a, p, xs, rfl, rfl, hS, hx, hb, q⟩
  obtain rfl : v = .ref a := rx
  obtain rfl : u = .ref p := ry
  obtain ⟨us, ht, rv⟩ := tup_at I hS
  refine SeqAt.in_tupleAt (e := fun _ => false) ht (fun y hy => ?_) ?_
  · obtain ⟨z, h1, h2⟩ := vals_mem rv y (by simpa using hy)
    exact eqAt_big (by rw [in1_units]; omega) I hb h2 (List.all_eq_true.mp hx z h1)
  · have e : (us.any fun _ => false) = false := by simp
    rw [e]
    exact ⟨.bl false, H, I, rfl, q⟩
open PySem.SeqAt in
theorem op_eqB (hu : X.A.units + 64 < cLine) : OpR X (compareOp .Eq) (fun x y H Q => ∃ a kvs z, x = .ref a ∧ y = .str z ∧ H a = some (.dK kvs) ∧ Q (.bl false) H) := by
  rintro pins s σ H x y v u Q I rx ry ⟨a, kvs, z, rfl, rfl, hS, q⟩
  obtain rfl : v = .ref a := rx
  obtain ⟨t, rfl⟩ := ry
  obtain ⟨o, ho, hc, hd⟩ := dct_at I hS
  show wpAny _ _ (richCompare .Eq (.ref a) (.str z t)) _ _ _
  refine rc_eq_decline_or (k := false) ⟨o, ho, hc⟩ (typeIs_str s z t) (by decide) F.sub_str_dict F.slot_dict_eq F.slot_str_eq_refl (fun Q' hq => ?_) (fun Q' hq => ?_) (fun Q' hq => wpAny_of_eq rfl hq) (Or.inr (by omega)) ⟨.bl false, H, I, rfl, q⟩
  · exact call_meets F.slot_dict_eq_refl ⟨o, ho, hc⟩ F.entry_dict_eq (F.args_dict_eq_2 _ _) (dict_declines a o (.str z t) "str" (fun s => typeIs_str s z t) F.sub_str_dict) ⟨⟨ho, hc⟩, hq⟩
  · exact call_meets F.slot_str_eq (typeIs_str s z t) F.entry_str_eq (F.args_str_eq_2 _ _) (str_declines z t a o) ⟨⟨ho, hd⟩, hq⟩
/-! ### in and ==, as data -/
@[simp] def gInX : G2 := fun x y M => if nflat x = true then (match y with
  | .tup xs => if xs.all dOk = true then .ok (.bl false) M else .no
  | _ => .no) else gInS (fun b => b) x y M
theorem rep_vok {K : Kf} {μ : List Addr} {H : Hp} : ∀ {vs : List V} {ds : List D}, RepAll K μ H vs ds → ds.all dOk = true → vs.all vOk = true
  | _, [], h, _ => by cases h; rfl
  | _, d :: ds, h, q => by
    cases h with
    | cons r t =>
      rw [List.all_cons, Bool.and_eq_true] at q ⊢
      refine ⟨?_, rep_vok t q.2⟩
      cases r <;> first | rfl | (cases q.1)
theorem rep_big {K : Kf} {μ : List Addr} {Hf Fr H : Hp} {M : Mem} {v : V} {d : D} (s : SR K μ Hf Fr H M) (r : Rep K μ Hf v d) (h : nflat d = true) : ∃ a, v = .ref a ∧ Big K H a := by
  cases r with
  | lst q t => exact ⟨_, rfl, .inl ⟨_, s.ex _ _ q⟩⟩
  | tup q t => exact ⟨_, rfl, .inr (.inl ⟨_, same_t s.ex q⟩)⟩
  | dct q k t => exact ⟨_, rfl, .inr (.inr ⟨_, s.ex _ _ q⟩)⟩
  | _ => cases h
theorem o_inX (hu : X.A.units + 64 < cLine) : OpR X (compareOp .In) (rD2 X.K E gInX) := by
  refine opr_imp ((o_in (E := E)).or (op_inB hu)) fun x y H Q ⟨μ, Hf, Fr, M, d1, d2, r1, r2, s, p⟩ => ?_
  unfold gInX at p
  split at p
  · rename_i hn
    split at p
    · rename_i xs
      split at p
      · rename_i hx
        cases r2 with
        | tup q t =>
          obtain ⟨a, rfl, hb⟩ := rep_big s r1 hn
          exact .inr ⟨a, _, _, rfl, rfl, same_t s.ex q, rep_vok t hx, hb, p.now s _ (.bl _)⟩
      · exact p.elim
    · exact p.elim
  · exact .inl ⟨μ, Hf, Fr, M, d1, d2, r1, r2, s, p⟩
@[simp] def gEqX : G2 := fun x y M => match x, y with
  | .dct _ _, .str _ => .ok (.bl false) M
  | x, y => gEqv (fun b => b) x y M
theorem o_eqX (hu : X.A.units + 64 < cLine) : OpR X (compareOp .Eq) (rD2 X.K E gEqX) := by
  refine opr_imp ((o_eq (E := E) hu).or (op_eqB hu)) fun x y H Q ⟨μ, Hf, Fr, M, d1, d2, r1, r2, s, p⟩ => ?_
  unfold gEqX at p
  split at p
  · cases r2
    cases r1 with
    | dct q k t => exact .inr ⟨_, _, _, rfl, rfl, s.ex _ _ q, p.now s _ (.bl _)⟩
  · exact .inl ⟨μ, Hf, Fr, M, d1, d2, r1, r2, s, p⟩
end
end Den
namespace Den
open PySem PySem.Spec PyProof.Rows L2
/-! ### defs that need no word of the guards -/
section
variable {P : Program} {w : World} {K : Kf} {mg : Str → Option Value} {base : Heap}
theorem fn0_of {x qual : Str} {st : Stmt} {f : Addr} {fd : FuncData} {N ps : List Str} {k : Nat} {body : FS} (F : Fun K x qual st f fd) (S : FnScope N ps (defScope st))
    (hb : ∀ (cdv : Value) (A : Around) (outer : List Env) (s : Shared) (H : Hp) (E : XK), Room k (A.deeper (envOfC qual (defScope st) s.heap.objs.size f cdv)) →
      DSs (cxOf CX0 P w K mg base N qual (defScope st) f cdv A outer s H E).nox EN (defBody st) body) : FnOk P w K mg base CX0 (k + 1) f fd ps (spD K ps.length (defF N.length body)) := by
  refine F.ok S (fun vs H Q E h => h.1) fun cdv A outer s H vs Q E hr h => ⟨_, hb cdv A outer s H E hr, ?_⟩
  obtain ⟨hl, μ, Hf, Fr, M, ds, ra, sr, z⟩ := h
  refine ⟨μ, Hf, Fr, _, M, start_rep ra, sr, (post_noX z).weak fun f μ1 Hf1 H1 M1 e1 m1 s1 p1 => ?_⟩
  cases f with
  | rt d => exact fun v r1 => p1.now s1 v r1
  | nx ρ => exact fun _ _ => p1.now s1 _ .non
  | bk ρ => exact p1.elim
  | ct ρ => exact p1.elim
theorem FnG.of0 {k : Nat} {f : Addr} {fd : FuncData} {ps : List Str} {F : GA} (G : FnOk P w K mg base CX0 k f fd ps (spD K ps.length F)) : FnG P w K mg base CX0 k f fd ps F :=
  ⟨fun A outer s H args us vs Q E hr _ e0 hbd rv h => G.run A outer s H args us vs Q E hr e0 hbd rv h⟩
end
structure Cal0 (P : Program) (w : World) (K : Kf) (mg : Str → Option Value) (base : Heap) (k : Nat) (x : Str) (n : Nat) (g : GA) : Prop where
  ex : ∃ (f : Addr) (fd : FuncData) (ps : List Str), mg x = some (.ref f) ∧ PySem.W.keepIn K (.ref f) = true ∧ Binds K fd ps [] ∧ ps.length = n ∧ FnOk P w K mg base CX0 k f fd ps (spD K ps.length g)
section
variable {X : Cx} {E : XK} {a b c e o : Expr} {es rest : List Expr} {fa fb fc F : FE} {ft fu : FT} {fg : FA} {pos : Pos} {k : Nat} {x : Str} {p : Pos} {n : Nat} {g : GA}
theorem de_callN0 (C : Cal0 X.prog X.w X.K X.mg X.base k x n g) (hr : Room k X.A) (hg : Gl X x) (ha : DA X E (e :: es) fg) (hdb : (x == ("__debug__" : Str)) = false := by decide)
    (he : starEach (e :: es) X.env = (false, eval e X.env) :: starEach es X.env := by rfl) (hpl : (backTo pos (starEach es X.env)).any (·.1) = false := by rfl) : DE X E (.Call (.Name x p) (e :: es) [] pos) (eCall g [] n fg) := by
  obtain ⟨f, fd, ps, hm, hk, hb, rfl, G⟩ := C.ex
  exact pe_imp (pe_call (E := E) G hr hg hm hk hb .nil (fun _ _ _ _ _ _ _ y => y.elim) ha hdb he hpl) fun σ H Q h => call_go dflt_nil h
/-! ### tuple(..), a sum that may change -/
@[simp] def gTuple : GA := fun ds M => match ds with
  | [.tup xs] => .ok (.tup xs) M
  | [d] => match itemsD d M with
    | some xs => .ok (.tup xs) M
    | none => .no
  | _ => .no
theorem c_tuple : CallR X (.type "tuple") (rA X.K E gTuple) := by
  refine callr_imp call_tuple_of fun vs H Q ⟨μ, Hf, Fr, M, ds, rs, s, p⟩ => ?_
  unfold gTuple at p
  split at p
  · cases rs with
    | cons r t =>
      cases t
      cases r with
      | tup q t => exact ⟨_, _, rfl, .inr ⟨same_t s.ex q, p.now s _ (.tup q t)⟩⟩
  · split at p
    · rename_i xs hx
      cases rs with
      | cons r t =>
        cases t
        obtain ⟨a, us, rfl, q, t⟩ := items_of s r hx
        exact ⟨_, _, rfl, .inl ⟨q, fun l hl => p.new s hl fun e => rep_tup t e⟩⟩
    · exact p.elim
  · exact p.elim
@[simp] def lstD (d : D) (M : Mem) : Option (List D) := match d with
  | .lst xs => some xs
  | .loc n => match M[n]? with
    | some (some xs) => some xs
    | _ => none
  | _ => none
theorem lst_of {K : Kf} {μ : List Addr} {Hf Fr H : Hp} {M : Mem} {v : V} {d : D} {ds : List D} (s : SR K μ Hf Fr H M) (r : Rep K μ Hf v d) (h : lstD d M = some ds) : ∃ a vs, v = .ref a ∧ H a = some (.lst vs) ∧ RepAll K μ Hf vs ds := by
  unfold lstD at h
  split at h
  · cases h
    cases r with
    | lst q t => exact ⟨_, _, rfl, s.ex _ _ q, t⟩
  · split at h
    · rename_i xs hM
      cases h
      obtain ⟨a, vs, rfl, _, q, t⟩ := loc_list s hM r
      exact ⟨_, _, rfl, q, t⟩
    · cases h
  · cases h
@[simp] def gAddM : G2 := fun x y M => match lstD x M, lstD y M with
  | some xs, some ys => if xs.length + ys.length ≤ lineD then .ok (.loc M.length) (M ++ [some (xs ++ ys)]) else .no
  | _, _ => .no
theorem o_addM : OpR X (binaryOp .Add) (rD2 X.K E gAddM) := by
  refine opr_imp op_cat fun x y H Q ⟨μ, Hf, Fr, M, d1, d2, r1, r2, s, p⟩ => ?_
  unfold gAddM at p
  split at p
  · rename_i xs ys h1 h2
    split at p
    · rename_i hz
      obtain ⟨a1, v1, rfl, q1, t1⟩ := lst_of s r1 h1
      obtain ⟨a2, v2, rfl, q2, t2⟩ := lst_of s r2 h2
      exact ⟨_, _, _, _, rfl, rfl, q1, q2, line_le (by rw [t1.length, t2.length]; exact hz), fun q hq => p.newLoc s hq (t1.app t2)⟩
    · exact p.elim
  · exact p.elim
/-- + of two tuples too, the first one not empty -/
@[simp] def gAddT : G2 := fun x y M => match x, y with
  | .tup (i :: is), .tup j => if (i :: is).length + j.length ≤ lineD then .ok (.tup ((i :: is) ++ j)) M else .no
  | x, y => gAdd x y M
theorem o_addT : OpR X (binaryOp .Add) (rD2 X.K E gAddT) := by
  refine opr_imp ((o_add (E := E)).or op_catT) fun x y H Q ⟨μ, Hf, Fr, M, d1, d2, r1, r2, s, p⟩ => ?_
  unfold gAddT at p
  split at p
  · rename_i i is j
    split at p
    · rename_i hz
      cases r1 with
      | tup q1 t1 =>
        cases r2 with
        | tup q2 t2 =>
          refine .inr ⟨_, _, _, _, rfl, rfl, same_t s.ex q1, same_t s.ex q2, ?_, line_le (by rw [t1.length, t2.length]; exact hz), fun e => ?_, fun _ l hl => p.new s hl fun e => rep_tup (t1.app t2) e⟩
          · intro e
            rw [e] at t1
            cases t1
          · subst e
            cases t2
            rw [List.append_nil] at p
            exact p.now s _ (.tup q1 t1)
    · exact p.elim
  · exact .inl ⟨μ, Hf, Fr, M, d1, d2, r1, r2, s, p⟩
/-- o[i], y = e1, e2 -/
@[simp] def sParIx (fa fb fo fj : FE) (j : Nat) : FS := fun ρ M => (fa ρ M).bind fun x M1 => (fb ρ M1).bind fun y M2 => (fo ρ M2).bind fun o M3 => (fj ρ M3).bind fun i M4 => (setM o i x ρ M4).bind fun f M5 => match f with
  | .nx ρ1 => .ok (.nx (ρ1.set j (some y))) M5
  | _ => .no
theorem ds_parIx {oe ie e1 e2 : Expr} {fo fj : FE} {j : Nat} {y : Str} {p1 p2 p3 p4 : Pos} {k1 k2 : Nat} (h1 : DA X E [e1, e2] (aCons fa (aCons fb aNil))) (ho : DE X E oe fo) (hi : DE X E ie fj) (hy : PG X (.Name y p2) (gName j)) (hc : X.calm = true)
    (hs : swapsWithSole [.Tuple [.Subscript oe ie p1, .Name y p2] k1 p3] (.Tuple [e1, e2] k2 p4) pos.line X.env = pure false := by rfl) (hw : swappedStores [.Tuple [.Subscript oe ie p1, .Name y p2] k1 p3] (.Tuple [e1, e2] k2 p4) X.env = pure none := by rfl)
    (hq : (assignEach [.Tuple [.Subscript oe ie p1, .Name y p2] k1 p3] X.env).map (·.2) = [assign (.Tuple [.Subscript oe ie p1, .Name y p2] k1 p3) X.env] := by rfl)
    (hl1 : (assignEach [.Subscript oe ie p1, .Name y p2] X.env).length = 2 := by rfl) (hl2 : (assignEach [.Subscript oe ie p1, .Name y p2] X.env).findIdx? (·.1) = none := by rfl)
    (hm1 : (assignEach [.Subscript oe ie p1, .Name y p2] X.env).map (·.2) = assign (.Subscript oe ie p1) X.env :: (assignEach [.Name y p2] X.env).map (·.2) := by rfl)
    (hm2 : (assignEach [.Name y p2] X.env).map (·.2) = assign (.Name y p2) X.env :: (assignEach [] X.env).map (·.2) := by rfl)
    (ha : ∀ v, assign (.Subscript oe ie p1) X.env v = (do
      let ov ← holding [v] (eval oe X.env)
      let iv ← holding [v, ov] (eval ie X.env)
      standAt p1
      holding [v, ov, iv] (setItem ov iv v)
      release [v, ov, iv] []) := by intro _; rfl) : DS X E (.Assign [.Tuple [.Subscript oe ie p1, .Name y p2] k1 p3] (.Tuple [e1, e2] k2 p4) pos) (sParIx fa fb fo fj j) := by
  refine ps_imp (ps_asg (de_tup h1) (pg_tup hc (pgs_cons (pg_sub ho hi set_list ha) (pgs_cons hy pgs_nil hm2) hm1) hl1 hl2) hs hw hq) fun N σ H ⟨μ, Hf, Fr, ρ, M, r, s, p⟩ => ?_
  refine ⟨μ, Hf, Fr, ρ, M, r, s, ?_⟩
  unfold sParIx at p
  have p' : Post X.K E ((fa ρ M).bind fun x M1 => (fb ρ M1).bind fun y M2 => .ok (D.tup [x, y]) M2) μ Hf Fr (fun d μ1 Hf1 _ M2 => match d with
    | D.tup [x, y] => Post X.K E ((fo ρ M2).bind fun o M3 => (fj ρ M3).bind fun i M4 => (setM o i x ρ M4).bind fun f M5 => match f with
      | .nx ρ1 => .ok (.nx (ρ1.set j (some y))) M5
      | _ => .no) μ1 Hf1 Fr (kS X.K N)
    | _ => False) := by
    cases hfa : fa ρ M with
    | ok x M1 =>
      rw [hfa] at p
      simp only [Out.bind_ok] at p ⊢
      cases hfb : fb ρ M1 with
      | ok y M2 =>
        rw [hfb] at p
        simp only [Out.bind_ok] at p ⊢
        exact fun H' Hf' μ' e m s' => p.later e m
      | exc x M => rw [hfb] at p; exact p
      | no => rw [hfb] at p; exact p
    | exc x M => rw [hfa] at p; exact p
    | no => rw [hfa] at p; exact p
  have eqt : eTup (aCons fa (aCons fb aNil)) ρ M = (fa ρ M).bind fun x M1 => (fb ρ M1).bind fun y M2 => .ok (D.tup [x, y]) M2 := by
    cases hfa : fa ρ M with
    | ok x M1 =>
      cases hfb : fb ρ M1 with
      | ok y M2 => simp [hfa, hfb, line1k]
      | exc x M => simp [hfa, hfb]
      | no => simp [hfa, hfb]
    | exc x M => simp [hfa]
    | no => simp [hfa]
  rw [eqt]
  refine p'.weak fun d μ1 Hf1 H1 M1 e1 m1 s1 p1 v rv => ?_
  split at p1
  · rename_i x y
    cases rv with
    | tup q t =>
      have hlen := t.length
      cases t with
      | cons rx t => cases t with
        | cons ry t =>
          cases t
          refine ⟨_, _, rfl, same_t s1.ex q, rfl, ?_⟩
          refine ⟨_, _, rfl, μ1, Hf1, Fr, ρ, M1, r.mono e1 m1, s1, p1.split.weak fun od μ2 Hf2 H2 M2 e2 m2 s2 p2 ov ro => ?_⟩
          refine ⟨μ2, Hf2, Fr, ρ, M2, (r.mono e1 m1).mono e2 m2, s2, p2.split.weak fun id μ3 Hf3 H3 M3 e3 m3 s3 p3 iv ri => ?_⟩
          unfold setM at p3
          split at p3
          · split at p3
            · rename_i xs hM
              split at p3
              · rename_i jj hj
                cases ri
                obtain ⟨a, us, rfl, q, h4, h5⟩ := loc_list s3 hM (Rep.mono e3 m3 _ _ ro)
                have rd : RepAll X.K μ3 Hf3 (us.set jj _) (xs.set jj _) := h5.set jj (Rep.mono e3 m3 _ _ (Rep.mono e2 m2 _ _ rx))
                refine ⟨_, _, _, jj, rfl, rfl, h4, by rw [h5.length]; exact hj, _, _, rfl, ?_⟩
                show gNil [] _ _ N.nx
                unfold gNil
                first | exact ⟨rfl, p3.now (s3.turn hM q rd) _ ((((r.mono e1 m1).mono e2 m2).mono e3 m3).put _ (Rep.mono e3 m3 _ _ (Rep.mono e2 m2 _ _ ry)))⟩ | exact p3.now (s3.turn hM q rd) _ ((((r.mono e1 m1).mono e2 m2).mono e3 m3).put _ (Rep.mono e3 m3 _ _ (Rep.mono e2 m2 _ _ ry)))
              · exact p3.elim
            · exact p3.elim
          · exact p3.elim
  · exact p1.elim
end
end Den
namespace Den
open PySem PySem.Spec PyProof.Rows L2
/-! ### frames -/
theorem SR.unfr {K : Kf} {μ : List Addr} {Hf Fr H : Hp} {M : Mem} {q : Addr} {u : HO} (hq : Fr q = none) (sr : SR K μ Hf (upd Fr q u) H M) : SR K μ Hf Fr H M :=
  ⟨sr.ex, fun b u' e' => sr.fr b u' (by rw [upd_ne (ne_of_none e' hq)]; exact e'), fun b u' e' => sr.dis b u' (by rw [upd_ne (ne_of_none e' hq)]; exact e'), sr.len, sr.nd, fun n ds e' => by
    obtain ⟨a, vs, h1, h2, h3, h4, h5⟩ := sr.cell n ds e'
    have ha : a ≠ q := fun z => by subst z; rw [upd_same] at h3; cases h3
    exact ⟨a, vs, h1, h2, by rw [upd_ne ha] at h3; exact h3, h4, h5⟩, sr.old, sr.tb, sr.px, sr.pr.less hq, fun b hb => by
    have z := sr.of b hb
    by_cases hb' : b = q
    · subst hb'; exact hq
    · rw [upd_ne hb'] at z; exact z⟩
theorem Post.fr {α : Type} {K : Kf} {E : XK} {o : Out α} {μ : List Addr} {Hf Fr : Hp} {k : α → List Addr → Hp → Hp → Mem → Prop} {q : Addr} {u : HO} (hq : Fr q = none) (p : Post K E o μ Hf Fr k) : Post K E o μ Hf (upd Fr q u) k := by
  cases o with
  | ok a M => exact fun H' Hf' μ' e m s => p H' Hf' μ' e m (s.unfr hq)
  | exc x M => exact fun dx H' Hf' μ' e m s => p dx H' Hf' μ' e m (s.unfr hq)
  | no => exact p
section
variable {X : Cx} {E : XK} {a b c e o : Expr} {es rest : List Expr} {fa fb fc F : FE} {ft fu : FT} {fg : FA} {pos : Pos} {k : Nat} {x : Str} {p : Pos} {n : Nat} {g : GA}
/-! ### try: y = e; except C: .. -/
@[simp] def sTry (i : Nat) (C : Addr) (F : FE) (hd : Mem → Out Fl) : FS := fun ρ M => match F ρ M with
  | .ok d M1 => .ok (.nx (ρ.set i (some d))) M1
  | .exc x M1 => match x.cls with
    | .ref a => if a = C then hd M1 else .no
    | _ => .no
  | .no => .no
theorem none_rep {K : Kf} {μ : List Addr} {H : Hp} (σ : L2.St) : ERep K μ H σ (List.replicate σ.length none) :=
  ⟨by simp, fun i d e => by rw [List.getElem?_replicate] at e; split at e <;> cases e⟩
theorem ds_try {i : Nat} {n y : Str} {np p1 p2 pos' : Pos} {C : Addr} {b₀ : Stmt} {suite : List Stmt} {hd : Mem → Out Fl}
    (hs : X.stack = X.env :: X.outer) (hf : X.env.frame = some X.env.locals) (hc : Names X n (.ref C)) (hex : PySem.W.exmOne X.K (.ref C) (.ref C) = some true)
    (hps : ∀ te pn xe, PE (X.tr pn xe) e te → PS (X.tr pn xe) (.Assign [.Name y p1] e p2) (tAsg te (gName i)))
    (he : ∀ (E' : XK) (pn : List (Addr × Obj)) (xe : Value → Shared → Prop), Passes (L2.CX X.prog X.w) (X.tr pn xe) E' → DE (X.tr pn xe) E' e F)
    (hsu : ∀ (a : Addr) (oe : Obj) (pn : List (Addr × Obj)), DSs (X.suite a ((a, oe) :: pn)) E (b₀ :: suite) (fun _ M => hd M)) :
    DS X E (.Try [.Assign [.Name y p1] e p2] [.ExceptHandler (some (.Name n np)) none (b₀ :: suite) pos'] [] [] pos) (sTry i C F hd) := by
  refine ps_imp (ps_try_only (tb := fun W => tAsg (teF X.K (fun cls d H => ∀ σ, W cls d σ H) F) (gName i)) (ts := fun _ _ _ => tsF X.K E (fun _ M => hd M)) (Wout := fun _ _ _ _ => False) hs hf hc takes0
    (fun W pn xe tk _ => pss_one (hps _ pn xe (he _ pn xe (passes_call tk fun cls d σ H h => h σ)))) (fun a oe cls d pn _ _ => hsu a oe pn)) fun N σ H ⟨μ, Hf, Fr, ρ, M, r, s, p⟩ => ?_
  refine ⟨μ, Hf, Fr, ρ, M, r, s, ?_⟩
  unfold sTry at p
  cases hF : F ρ M with
  | ok d M1 =>
    rw [hF] at p
    exact fun H' Hf' μ' e m s' v rv => p H' Hf' μ' e m s' _ ((r.mono e m).put i rv)
  | exc xd M1 =>
    rw [hF] at p
    dsimp only at p
    split at p
    · rename_i a ha
      split at p
      · rename_i hC
        subst hC
        intro dx H' Hf' μ' e m s' xr σ'
        rw [ha]
        refine ⟨true, hex, fun _ q _ => ?_, fun z => by cases z⟩
        exact ⟨μ', Hf', Fr, List.replicate σ'.length none, M1, none_rep σ', s', p.later e m⟩
      · exact p.elim
    · exact p.elim
  | no => rw [hF] at p; exact p.elim

/-! ### objects of one class with one field, made of a tuple -/
def mkF (C CX : Addr) (fl : Str) (g : GA) (ds : List D) (M : Mem) : Out D := if ds.length ≤ lineD then (g [.tup ds] M).noX.bind fun d M1 => match d with
  | .bl true => .ok (.ins C [fl] [.tup ds]) M1
  | .bl false => .exc ⟨.ref CX, none⟩ M1
  | _ => .no
  else .no
def spMk (K : Kf) (C CX : Addr) (fl : Str) (g : GA) : Sp := fun vs H Q E => ∃ x dx rest μ Hf Fr M ds, vs = .ref x :: rest ∧ RepAll K μ Hf rest ds ∧ SR K μ Hf (upd Fr x (.ins C dx [])) H M ∧ Fr x = none ∧
  Post K E (mkF C CX fl g ds M) μ Hf Fr (kD K fun v H' => v = .ref x → Q .non H')
def spI (K : Kf) (C CX : Addr) (fl : Str) (g : GA) : Sp := fun vs H Q E => ∃ x dx q μ Hf Fr M ds, vs = [.ref x, .ref q] ∧ Rep K μ Hf (.ref q) (.tup ds) ∧ SR K μ Hf (upd Fr x (.ins C dx [])) H M ∧ Fr x = none ∧
  Post K E (mkF C CX fl g ds M) μ Hf Fr (kD K fun v H' => v = .ref x → Q .non H')
def tInit (K : Kf) (CX : Addr) (fl : Str) (g : GA) (E : XK) : TS :=
  tSeq (tIfS (ttF K EN (tNotF (fTru (eCall g [] 1 (aCons (eVar 1) aNil))))) (fun _ _ H => E (.ref CX) none H) tNext) (sFld K (tVar 0) (tVar 1) fl)
theorem putF_nil {f : Str} {v : V} : putF f v [] = [(f, v)] := by first | rfl | simp [putF]
theorem pure_init {K : Kf} {C CX : Addr} {fl : Str} {g : GA} {vs : List V} {H : Hp} {Q : VK} {E : XK} (cl : Cls K C) (na : NoAttr K C fl) (h : spI K C CX fl g vs H Q E) : tInit K CX fl g E { nx := fun _ H' => Q .non H', rt := Q } (L2.start ["self", "states"] vs) H := by
  obtain ⟨x, dx, q, μ, Hf, Fr, M, ds, rfl, rq, s, hx, p⟩ := h
  unfold mkF at p
  split at p
  · have st : L2.start ["self", "states"] [V.ref x, V.ref q] = [some (V.ref x), some (V.ref q)] := rfl
    rw [st]
    refine ⟨μ, Hf, _, [none, some (.tup ds)], M, ⟨rfl, fun i d e => ?_⟩, s, ?_⟩
    · match i, e with
      | 1, e =>
        have : D.tup ds = d := by simpa using e
        subst this
        exact ⟨_, rfl, rq⟩
    · cases hg : g [.tup ds] M with
      | ok d M1 =>
        rw [hg] at p
        simp only [Out.noX, Out.bind_ok] at p
        cases d with
        | bl b =>
          have ev : tNotF (fTru (eCall g [] 1 (aCons (eVar 1) aNil))) [none, some (.tup ds)] M = .ok (!b) M1 := by
            simp [hg, truD]
          rw [ev]
          intro H' Hf' μ' e m s'
          cases b with
          | true =>
            refine iteF ?_
            have hH : H' x = some (.ins C dx []) := s'.fr x _ upd_same
            refine ⟨_, rfl, _, rfl, x, C, dx, [], rfl, hH, cl, na, by show 0 < 1000; decide, ?_⟩
            rw [putF_nil]
            obtain ⟨s2, e2⟩ := (s'.hideTurn (o' := .ins C dx [(fl, .ref q)])).show hx
            refine p _ _ _ (e.trans e2) m s2 (.ref x) ?_ rfl
            exact .ins upd_same rfl (.cons (Rep.mono (e.trans e2) m _ _ rq) .nil)
          | false =>
            refine iteT ?_
            exact p none H' Hf' μ' e m (s'.unfr hx) rfl
        | _ => exact p.elim
      | exc xd M1 => rw [hg] at p; exact p.elim
      | no => rw [hg] at p; exact p.elim
  · exact p.elim
/-! ### the making of such an object -/
theorem fnr_imp {P : Program} {w : World} {K : Kf} {mg : Str → Option Value} {base : Heap} {CX : CXT} {f : Addr} {sp sp' : Sp} (h : FnR P w K mg base CX k f sp) (i : ∀ vs H Q E, sp' vs H Q E → sp vs H Q E) : FnR P w K mg base CX k f sp' :=
  fun A outer s H us vs Q E hr e0 rv q => h A outer s H us vs Q E hr e0 rv (i _ _ _ _ q)
theorem init_of {P : Program} {w : World} {K : Kf} {mg : Str → Option Value} {base : Heap} {f C CX : Addr} {fl : Str} {name qual : Str} {params : Arguments} {body : List Stmt} {scope : Scope} {dV kV doc pm cdv ct oc : Value} {an od : Option Addr} {osl : Array (Option Value)}
    (lk : List.lookup f K = some ⟨oc, od, .func (PySem.W.fnOf name qual params body scope dV kV doc pm an cdv ct), osl⟩) (hcd : PySem.W.codeIn K cdv qual = true) (S : FnScope ["self", "states"] ["self", "states"] scope)
    (hb : ∀ us rest : List Value, us.length = ["self"].length → bindArgs (PySem.W.fnOf name qual params body scope dV kV doc pm an cdv ct) { pos := us ++ rest } = (do let t ← newTuple rest; pure ((["self"] : List Str).zip us ++ [(("states" : Str), t)])))
    (cl : Cls K C) (na : NoAttr K C fl) (g : GA)
    (hd : ∀ (A : Around) (outer : List Env) (s : Shared) (H : Hp) (E : XK), Room k (A.deeper (envOfC qual scope s.heap.objs.size f cdv)) → PSs (cxOf (L2.CX P w) P w K mg base ["self", "states"] qual scope f cdv A outer s H E) body (tInit K CX fl g E)) :
    FnR P w K mg base (L2.CX P w) (k + 1) f (spMk K C CX fl g) := by
  refine fnr_imp (StX.fn_star (ps := ["self"]) (pv := "states") (sp := spI K C CX fl g) lk hcd S StX.cxUp hb fun A outer s H vs Q E hr h => ⟨_, hd A outer s H E hr, pure_init cl na h⟩) ?_
  rintro vs H Q E ⟨x, dx, rest, μ, Hf, Fr, M, ds, rfl, ra, s, hx, p⟩
  have hl : rest.length ≤ sizeLine := by
    unfold mkF at p
    split at p
    · rename_i hz; exact line_le (by rw [ra.length]; exact hz)
    · exact p.elim
  refine ⟨[.ref x], rest, rfl, rfl, hl, fun q hq => ?_⟩
  obtain ⟨s2, e2⟩ := s.froz (o := .tup rest) hq
  exact ⟨x, dx, q, μ, _, Fr, M, ds, rfl, rep_tup ra e2, s2, hx, p.later e2 (List.prefix_refl _)⟩
/-! ### c(*xs), c a class that a name holds -/
theorem pe_clsStar {CX : CXT} {C fI : Addr} {sp : Sp} {c : Str} {te tc : TE} {p2 : Pos} (Mk : Mk X.K C fI) (G : FnR X.prog X.w X.K X.mg X.base CX k fI sp) (hr : Room (k + 1) X.A) (hx : Passes CX X E) (hc : PE X (.Name c p) tc) (he : PE X e te)
    (hst : starEach [.Starred e p2] X.env = [(true, eval e X.env)] := by rfl) : PE X (.Call (.Name c p) [.Starred e p2] [] pos) (fun σ H Q => tc σ H fun y H1 => y = .ref C ∧ te σ H1 fun z H2 => ∃ a xs, z = .ref a ∧ (SqT X.K H2 a xs ∨ SqL X.K H2 a xs) ∧
      ∀ x dx, H2 x = none → H2 dx = none → dx ≠ x → sp (.ref x :: xs) (upd (upd H2 dx (.own x)) x (.ins C dx [])) (fun v H3 => v = .non ∧ Q (.ref x) H3) E) := by
  constructor
  intro pins s σ H Q I h
  refine wpAny_Call_Name_kw (thn (hc.run pins s σ H _ I h) ?_)
  rintro u s1 ⟨y, H1, I1, ry, rfl, h1⟩
  obtain rfl : u = .ref C := ry
  refine PySem.W.callWith_S (first := []) (h₀ := X.base) I1.ok.mod.kin Mk.kp (thn (he.run pins s1 σ H1 _ I1 h1) ?_) hst
  rintro v s2 ⟨z, H2, I2, rz, a, xs, rfl, hq, h2⟩
  obtain rfl : v = .ref a := rz
  refine StX.star_any I2 hq fun us s' I3 rv => ⟨I3.kIn, ?_⟩
  exact StX.run_makeR Mk G hr hx I3 rv h2
/-- of(cls, states) -/
def gOf (C CX : Addr) (fl : Str) (g : GA) : GA := fun ds M => match ds with
  | [.fn c, d] => if c = C then match tyD d with
    | some t => if isiB t "tuple" = true then match d with
      | .tup xs => mkF C CX fl g xs M
      | _ => .no
      else .exc ⟨.ref CX, none⟩ M
    | none => .no
    else .no
  | _ => .no
def tOf (K : Kf) (C CX : Addr) (fl : Str) (g : GA) (E : XK) : TS :=
  tSeq (tIfS (ttF K EN (tNotF (fTru (eApp gIsi (aCons (eVar 1) (aCons (eTy "tuple") aNil)))))) (fun _ _ H => E (.ref CX) none H) tNext)
    (tRet fun σ H Q => tVar 0 σ H fun y H1 => y = .ref C ∧ tVar 1 σ H1 fun z H2 => ∃ a xs, z = .ref a ∧ (SqT K H2 a xs ∨ SqL K H2 a xs) ∧
      ∀ x dx, H2 x = none → H2 dx = none → dx ≠ x → spMk K C CX fl g (.ref x :: xs) (upd (upd H2 dx (.own x)) x (.ins C dx [])) (fun v H3 => v = .non ∧ Q (.ref x) H3) E)
theorem pure_of {K : Kf} {C CX : Addr} {fl : Str} {g : GA} {vs : List V} {H : Hp} {Q : VK} {E : XK} (h : spD K 2 (gOf C CX fl g) vs H Q E) : tOf K C CX fl g E { nx := fun _ H' => Q .non H', rt := Q } (L2.start ["cls", "states"] vs) H := by
  obtain ⟨hl, μ, Hf, Fr, M, ds, ra, s, p⟩ := h
  unfold gOf at p
  split at p
  · rename_i c d
    split at p
    · rename_i hc
      subst hc
      cases ra with
      | cons r1 t => cases t with
        | cons r2 t =>
          cases t
          cases r1
          rename_i v2
          have st : L2.start ["cls", "states"] [V.ref c, v2] = [some (V.ref c), some v2] := rfl
          rw [st]
          split at p
          · rename_i t ht
            refine ⟨μ, Hf, Fr, [none, some d], M, ⟨rfl, fun i d' e => ?_⟩, s, ?_⟩
            · match i, e with
              | 1, e =>
                have : d = d' := by simpa using e
                subst this
                exact ⟨_, rfl, r2⟩
            · have ev : tNotF (fTru (eApp gIsi (aCons (eVar 1) (aCons (eTy "tuple") aNil)))) [none, some d] M = .ok (!isiB t "tuple") M := by
                have e1 : gIsi [d, .ty "tuple"] M = .ok (.bl (isiB t "tuple")) M := by
                  show (if "tuple" ∈ tyS then match tyD d with
                    | some t => Out.ok (D.bl (isiB t "tuple")) M
                    | none => Out.no
                    else Out.no) = _
                  rw [if_pos (by decide), ht]
                show ((gIsi [d, .ty "tuple"] M).bind truO).bind _ = _
                rw [e1]
                rfl
              rw [ev]
              intro H' Hf' μ' e m s'
              split at p
              · rename_i hb
                rw [hb]
                refine iteF ?_
                split at p
                · rename_i xs
                  have r2' := Rep.mono e m _ _ r2
                  cases r2' with
                  | tup q t =>
                    refine ⟨_, rfl, rfl, _, rfl, _, _, rfl, .inl (same_t s'.ex q), fun x dx nx nd ne => ?_⟩
                    have frx : Fr x = none := s'.fr.free nx
                    have frd : Fr dx = none := s'.fr.free nd
                    have s3 := s'.hide (o := .own x) nd
                    have s4 := s3.hide (q := x) (o := .ins c dx []) (by rw [upd_ne (Ne.symm ne)]; exact nx)
                    refine ⟨x, dx, _, μ', Hf', upd Fr dx (.own x), M, xs, rfl, t, s4, by rw [upd_ne (Ne.symm ne)]; exact frx, ?_⟩
                    refine ((p.later e m).fr frd).weak fun a μ1 Hf1 H1 M1 _ _ _ w v rv hv => ⟨rfl, ?_⟩
                    subst hv
                    exact w _ rv
                · exact p.elim
              · rename_i hb
                have hb' : isiB t "tuple" = false := by simpa using hb
                rw [hb']
                refine iteT ?_
                exact p none H' Hf' μ' e m s' rfl
          · exact p.elim
    · exact p.elim
  · exact p.elim
/-! ### C.m(e, ..), m a class method -/
@[simp] def eCM (C : Addr) (g : GA) (n : Nat) (fo : FE) (fg : FA) : FE := fun ρ M => (fo ρ M).bind fun d M1 => match d with
  | .fn c => if c = C then (fg ρ M1).bind fun xs M2 => if xs.length + 1 = n then g (.fn C :: xs) M2 else .no else .no
  | _ => .no
theorem fnr_of {P : Program} {w : World} {K : Kf} {mg : Str → Option Value} {base : Heap} {CX : CXT} {f : Addr} {fd : FuncData} {ps : List Str} {sp : Sp} (G : FnOk P w K mg base CX k f fd ps sp) (hb : Binds K fd ps []) : FnR P w K mg base CX k f sp :=
  fun A outer s H us vs Q E hr e0 rv q => by
    have hl := G.len _ _ _ _ q
    refine G.run A outer s H ⟨us, []⟩ us vs Q E hr e0 ?_ rv q
    have := hb s us (e0.mod.kin.keeps fun b o e => (e0.bs b o e).1) (by simpa using rv.length.symm.trans hl)
    simpa using this
theorem de_cmeth {CX : CXT} {C pa fO : Addr} {mc : Value} {m : Str} {fd : FuncData} {ps : List Str} {apos : Pos} {pl : Sem Bool} (ho : DE X E o fa) (r : ClX.CRead X.K C mc) (cm : ClX.CMet X.K C mc m pa fO) (G : FnOk X.prog X.w X.K X.mg X.base CX k fO fd ps (spD X.K n g)) (hb : Binds X.K fd ps []) (hr : Room k X.A) (hx : Passes CX X E) (ha : DA X E (e :: es) fg)
    (hst : starEach (e :: es) X.env = (false, eval e X.env) :: starEach es X.env := by rfl) (hpl : (backTo pos (starEach es X.env)).any (·.1) = false := by rfl)
    (ht : eval (.Call (.Attribute o m apos) (e :: es) [] pos) X.env = (do
      let ov ← eval o X.env
      standAt apos.atName
      let (f, first) ← holding [ov] (getMethod ov m pl)
      callWith pos f first (backTo pos (starEach (e :: es) X.env)) (backToKw pos (keywordEach [] X.env))) := by rfl) :
    DE X E (.Call (.Attribute o m apos) (e :: es) [] pos) (eCM C g n fa fg) := by
  refine pe_imp (ClX.pe_cmeth (E := E) ho r cm (fnr_of G hb) hr hx ha hst hpl ht) fun σ H Q ⟨μ, Hf, Fr, ρ, M, r0, s, p⟩ => ?_
  refine ⟨μ, Hf, Fr, ρ, M, r0, s, p.split.weak fun d μ1 Hf1 H1 M1 e1 m1 s1 p1 v rv => ?_⟩
  split at p1
  · rename_i c
    split at p1
    · rename_i hc
      subst hc
      cases rv
      refine ⟨rfl, μ1, Hf1, Fr, ρ, M1, r0.mono e1 m1, s1, p1.split.weak fun xs μ2 Hf2 H2 M2 e2 m2 s2 p2 vs rs => ?_⟩
      split at p2
      · rename_i hn
        exact ⟨by rw [List.length_cons, rs.length]; exact hn, μ2, Hf2, Fr, M2, _, .cons (.fn _) rs, s2, p2⟩
      · exact p2.elim
    · exact p1.elim
  · exact p1.elim
/-! ### o.f, f a property that reads a field -/
@[simp] def eProp (C : Addr) (fl : Str) (F : FE) : FE := fun ρ M => (F ρ M).bind fun d M1 => match d with
  | .ins c [f] [d'] => if c = C ∧ f = fl then .ok d' M1 else .no
  | _ => .no
theorem de_prop {C pa fG : Addr} {f fl : Str} {fd : FuncData} (ha : DE X E a F) (c : Cls X.K C) (hp : PropOf X.K C f pa fG) (G : FnOk X.prog X.w X.K X.mg X.base CX0 k fG fd ["self"] (getSp C fl)) (hr : Room (k + 1) X.A) (hb : Binds X.K fd ["self"] [])
    (hab : attributeBase a f X.env (eval a X.env) = eval a X.env := by rfl) : DE X E (.Attribute a f pos) (eProp C fl F) := by
  refine pe_imp (pe_prop (E := EN) ha c hp G hr hb .nil (fun _ _ _ _ _ _ _ y => y.elim) hab) fun σ H Q ⟨μ, Hf, Fr, ρ, M, r, s, p⟩ => ?_
  refine ⟨μ, Hf, Fr, ρ, M, r, s, p.split.weak fun d μ1 Hf1 H1 M1 e1 m1 s1 p1 v rv => ?_⟩
  split at p1
  · rename_i c' f' d'
    split at p1
    · rename_i hc
      obtain ⟨rfl, rfl⟩ := hc
      cases rv with
      | ins q k t =>
        rename_i fv
        match fv, k, t with
        | [(f1, v1)], k, t =>
          have e1 : f1 = f' := by simpa using k
          subst e1
          cases t with
          | cons r1 _ =>
            have hq := s1.ex _ _ q
            refine ⟨_, _, _, rfl, hq, _, _, _, _, rfl, hq, ?_, p1.now s1 _ r1⟩
            simp [List.lookup]
    · exact p1.elim
  · exact p1.elim
end
end Den
namespace Den
open PySem PySem.Spec PyProof.Rows L2
section
variable {X : Cx} {E : XK}
/-! ### text * number -/
def mulS (z : Str) (n : Int) : Bool := decide (z.length ≤ 16 ∧ 0 ≤ n ∧ n ≤ 1000)
@[simp] def gMulS : G2 := fun x y M => match x, y with
  | .str z, .int n => if mulS z n = true then .ok (.str (Txt.mul z n)) M else .no
  | _, _ => .no
theorem o_mulS : OpR X (binaryOp .Mult) (rD2 X.K E gMulS) := by
  rintro pins s σ H x y v u Q I rx ry ⟨μ, Hf, Fr, M, d1, d2, r1, r2, sr, p⟩
  unfold gMulS at p
  split at p
  · split at p
    · rename_i z n h
      obtain ⟨h1, h2, h3⟩ := of_decide_eq_true h
      cases r1; cases r2
      obtain ⟨t, rfl⟩ := rx
      obtain ⟨t2, rfl⟩ := ry
      exact PySem.W.KXi.mul rfl h1 (by omega) (by omega) fun t' k _ _ => ⟨.str _, H, I.tok k, ⟨t', rfl⟩, p.now sr _ (.str _)⟩
    · exact p.elim
  · exact p.elim
end
end Den
namespace Den
open PySem PySem.Spec PyProof.Rows L2
/-! ### defs that may raise -/
@[simp] def defX (n : Nat) (body : FS) : GA := fun ds M => (body (ds.map some ++ List.replicate (n - ds.length) none) M).bind fun f M1 => match f with
  | .rt d => .ok d M1
  | .nx _ => .ok .non M1
  | _ => .no
section
variable {P : Program} {w : World} {K : Kf} {mg : Str → Option Value} {base : Heap}
theorem fnX_of {x qual : Str} {st : Stmt} {f : Addr} {fd : FuncData} {N ps : List Str} {k : Nat} {body : FS} (F : Fun K x qual st f fd) (S : FnScope N ps (defScope st))
    (hb : ∀ (cdv : Value) (A : Around) (outer : List Env) (s : Shared) (H : Hp) (E : XK), Room k (A.deeper (envOfC qual (defScope st) s.heap.objs.size f cdv)) →
      Passes (L2.CX P w) (cxOf (L2.CX P w) P w K mg base N qual (defScope st) f cdv A outer s H E) E →
      DSs (cxOf (L2.CX P w) P w K mg base N qual (defScope st) f cdv A outer s H E) E (defBody st) body) : FnOk P w K mg base (L2.CX P w) (k + 1) f fd ps (spD K ps.length (defX N.length body)) := by
  refine F.okX S (fun vs H Q E h => h.1) fun cdv A outer s H vs Q E hr h => ⟨_, hb cdv A outer s H E hr (passes_call (takes_of rfl rfl rfl rfl) fun cls d σ H h => h), ?_⟩
  obtain ⟨hl, μ, Hf, Fr, M, ds, ra, sr, z⟩ := h
  refine ⟨μ, Hf, Fr, _, M, start_rep ra, sr, z.split.weak fun f μ1 Hf1 H1 M1 e1 m1 s1 p1 => ?_⟩
  cases f with
  | rt d => exact fun v r1 => p1.now s1 v r1
  | nx ρ => exact fun _ _ => p1.now s1 _ .non
  | bk ρ => exact p1.elim
  | ct ρ => exact p1.elim
end
structure CalX (P : Program) (w : World) (K : Kf) (mg : Str → Option Value) (base : Heap) (k : Nat) (x : Str) (n : Nat) (g : GA) : Prop where
  ex : ∃ (f : Addr) (fd : FuncData) (ps : List Str), mg x = some (.ref f) ∧ PySem.W.keepIn K (.ref f) = true ∧ Binds K fd ps [] ∧ ps.length = n ∧ FnOk P w K mg base (L2.CX P w) k f fd ps (spD K ps.length g)
section
variable {X : Cx} {E : XK} {a b c e o : Expr} {es rest : List Expr} {fa fb fc F : FE} {ft fu : FT} {fg : FA} {pos : Pos} {k : Nat} {x : Str} {p : Pos} {n : Nat} {g : GA}
theorem de_callNX (C : CalX X.prog X.w X.K X.mg X.base k x n g) (hr : Room k X.A) (hx : Passes (L2.CX X.prog X.w) X E) (hg : Gl X x) (ha : DA X E (e :: es) fg) (hdb : (x == ("__debug__" : Str)) = false := by decide)
    (he : starEach (e :: es) X.env = (false, eval e X.env) :: starEach es X.env := by rfl) (hpl : (backTo pos (starEach es X.env)).any (·.1) = false := by rfl) : DE X E (.Call (.Name x p) (e :: es) [] pos) (eCall g [] n fg) := by
  obtain ⟨f, fd, ps, hm, hk, hb, rfl, G⟩ := C.ex
  exact pe_imp (pe_call (E := E) G hr hg hm hk hb .nil hx ha hdb he hpl) fun σ H Q h => call_go dflt_nil h
/-! ### C(e, ..), *states -/
@[simp] def eMk (C CX : Addr) (fl : Str) (g : GA) (fg : FA) : FE := fun ρ M => (fg ρ M).bind fun ds M1 => mkF C CX fl g ds M1
theorem mk_go {K : Kf} {C CX : Addr} {fl : Str} {g : GA} {μ : List Addr} {Hf Fr H : Hp} {M : Mem} {vs : List V} {ds : List D} {Q : VK} (ra : RepAll K μ Hf vs ds) (s : SR K μ Hf Fr H M) (p : Post K E (mkF C CX fl g ds M) μ Hf Fr (kD K Q)) :
    ∀ y dx, H y = none → H dx = none → dx ≠ y → spMk K C CX fl g (.ref y :: vs) (upd (upd H dx (.own y)) y (.ins C dx [])) (fun v H2 => v = .non ∧ Q (.ref y) H2) E := by
  intro y dx ny nd ne
  have fry : Fr y = none := s.fr.free ny
  have frd : Fr dx = none := s.fr.free nd
  have s3 := s.hide (o := .own y) nd
  have s4 := s3.hide (q := y) (o := .ins C dx []) (by rw [upd_ne (Ne.symm ne)]; exact ny)
  refine ⟨y, dx, _, μ, Hf, upd Fr dx (.own y), M, ds, rfl, ra, s4, by rw [upd_ne (Ne.symm ne)]; exact fry, ?_⟩
  refine (p.fr frd).weak fun a μ1 Hf1 H1 M1 _ _ _ w v rv hv => ⟨rfl, ?_⟩
  subst hv
  exact w _ rv
theorem de_mk {C CXa fI : Addr} {fl : Str} (Mo : Mk X.K C fI) (G : FnR X.prog X.w X.K X.mg X.base (L2.CX X.prog X.w) k fI (spMk X.K C CXa fl g)) (hr : Room (k + 1) X.A) (hg : Gl X x) (hm : X.mg x = some (.ref C)) (hx : Passes (L2.CX X.prog X.w) X E) (ha : DA X E (e :: es) fg)
    (hdb : (x == ("__debug__" : Str)) = false := by decide) (he : starEach (e :: es) X.env = (false, eval e X.env) :: starEach es X.env := by rfl) (hpl : (backTo pos (starEach es X.env)).any (·.1) = false := by rfl) :
    DE X E (.Call (.Name x p) (e :: es) [] pos) (eMk C CXa fl g fg) := by
  refine pe_imp (StX.pe_makeR Mo G hr hg hm hx ha hdb he hpl) fun σ H Q ⟨μ, Hf, Fr, ρ, M, r0, s, z⟩ => ?_
  exact ⟨μ, Hf, Fr, ρ, M, r0, s, z.split.weak fun ds μ1 Hf1 H1 M1 e1 m1 s1 p1 vs rs => mk_go rs s1 p1⟩
theorem de_mk0 {C CXa fI : Addr} {fl : Str} (Mo : Mk X.K C fI) (G : FnR X.prog X.w X.K X.mg X.base (L2.CX X.prog X.w) k fI (spMk X.K C CXa fl g)) (hr : Room (k + 1) X.A) (hg : Gl X x) (hm : X.mg x = some (.ref C)) (hx : Passes (L2.CX X.prog X.w) X E)
    (hdb : (x == ("__debug__" : Str)) = false := by decide) : DE X E (.Call (.Name x p) [] [] pos) (eMk C CXa fl g aNil) := by
  refine ⟨fun pins s σ H Q I h => ?_⟩
  obtain ⟨μ, Hf, Fr, ρ, M, r0, sr, z⟩ := h
  refine wpAny_Call_Name_kw (ld_glob I hg hm ?_ hdb)
  exact PySem.W.callWith_K0 I.kIn Mo.kp (StX.run_makeR (us := []) (vs := []) Mo G hr hx I .nil (mk_go .nil sr z))
/-! ### list * number -/
@[simp] def gMulL : G2 := fun x y M => match lstD x M, y with
  | some xs, .int n => if 0 ≤ n ∧ n ≤ 600 ∧ xs.length ≤ 16 then .ok (.lst (List.replicate n.toNat xs).flatten) M else .no
  | _, _ => .no
theorem repl_rep {K : Kf} {μ : List Addr} {H : Hp} {vs : List V} {ds : List D} (r : RepAll K μ H vs ds) : ∀ n : Nat, RepAll K μ H (List.replicate n vs).flatten (List.replicate n ds).flatten
  | 0 => .nil
  | n + 1 => by
    rw [List.replicate_succ, List.replicate_succ, List.flatten_cons, List.flatten_cons]
    exact r.app (repl_rep r n)
theorem o_mulL : OpR X (binaryOp .Mult) (rD2 X.K E gMulL) := by
  refine opr_imp op_rep fun x y H Q ⟨μ, Hf, Fr, M, d1, d2, r1, r2, s, p⟩ => ?_
  unfold gMulL at p
  split at p
  · rename_i xs n h
    split at p
    · rename_i hc
      obtain ⟨h1, h2, h3⟩ := hc
      obtain ⟨a, vs, rfl, q, t⟩ := lst_of s r1 h
      cases r2
      refine ⟨a, n, vs, rfl, rfl, q, by omega, by omega, ?_, fun q hq => p.new s hq fun e => rep_lst (repl_rep t _) e⟩
      refine line_le (line1k ?_)
      rw [t.length]
      have h4 : n.toNat ≤ 600 := by omega
      exact Nat.le_trans (Nat.mul_le_mul h3 h4) (by decide)
    · exact p.elim
  · exact p.elim
/-! ### {number: e} -/
@[simp] def eDi (i : Int) (F : FE) : FE := fun ρ M => (F ρ M).bind fun d M1 => .ok (.dct [.inl i] [d]) M1
theorem de_di {i : Int} {ke : Expr} (hk : PE X ke (tC (.int i))) (hv : DE X E e F) : DE X E (.Dict [some ke] [e] pos) (eDi i F) := by
  refine pe_imp (pe_disp (pps_cons hk hv pps_nil) (by rfl) (by rfl) (fun z => by cases z) (by show 1 ≤ 15; decide)) fun σ H Q ⟨μ, Hf, Fr, ρ, M, r, s, z⟩ => ?_
  intro q hq
  have fq : Fr q = none := s.fr.free hq
  refine ⟨μ, Hf, upd Fr q (.dK []), ρ, M, r, s.hide hq, (z.split.fr fq).weak fun d μ1 Hf1 H1 M1 e1 m1 s1 p1 v rv => ?_⟩
  refine ⟨s1.fr q _ upd_same, [(.inl i, v)], rfl, by show 1 ≤ 15; decide, ?_⟩
  obtain ⟨s2, e2⟩ := (s1.hideTurn (o' := .dK [(.inl i, v)])).show fq
  exact p1 _ _ μ1 e2 (List.prefix_refl _) s2 _ (.dct upd_same rfl (.cons (Rep.mono e2 (List.prefix_refl _) _ _ rv) .nil))
/-! ### == of lists that may change -/
def deM (M : Mem) (d : D) : D := match d with
  | .loc n => match M[n]? with
    | some (some xs) => .lst xs
    | _ => .loc n
  | d => d
theorem dpM {K : Kf} {μ : List Addr} {Hf Fr H : Hp} {M : Mem} {v : V} {d : D} {y : PyData} (s : SR K μ Hf Fr H M) (r : Rep K μ Hf v d) (q : toPy (deM M d) = some y) : Dp K H v y := by
  unfold deM at q
  split at q
  · rename_i n
    split at q
    · rename_i xs hM
      obtain ⟨a, vs, rfl, _, h, t⟩ := loc_list s hM r
      unfold toPy at q
      cases hq : toPys xs with
      | none => rw [hq] at q; cases q
      | some ys =>
        rw [hq] at q; cases q
        exact .lst (SqL.of h) (RepAll.dp s.ex xs _ ys t hq)
    · cases q
  · exact r.dp s.ex _ _ _ q
@[simp] def gEqM (f : Bool → Bool) : G2 := fun x y M => match toPy (deM M x), toPy (deM M y) with
    | some p, some q => if SeqAt.shaped p = true ∧ SeqAt.shaped q = true then .ok (.bl (f (PyData.eqv p q))) M else .no
    | _, _ => .no
theorem o_eqM (hu : X.A.units + 64 < cLine) : OpR X (compareOp .Eq) (rD2 X.K E (gEqM fun b => b)) := by
  refine opr_imp (op_eqD hu) fun x y H Q ⟨μ, Hf, Fr, M, d1, d2, r1, r2, s, p⟩ => ?_
  unfold gEqM at p
  split at p
  · rename_i p1 p2 e1 e2
    split at p
    · rename_i hs
      exact ⟨p1, p2, dpM s r1 e1, dpM s r2 e2, hs.1, hs.2, p.now s _ (.bl _)⟩
    · exact p.elim
  · exact p.elim
theorem o_neM (hu : X.A.units + 64 < cLine) : OpR X (compareOp .NotEq) (rD2 X.K E (gEqM fun b => !b)) := by
  refine opr_imp (op_neD hu) fun x y H Q ⟨μ, Hf, Fr, M, d1, d2, r1, r2, s, p⟩ => ?_
  unfold gEqM at p
  split at p
  · rename_i p1 p2 e1 e2
    split at p
    · rename_i hs
      exact ⟨p1, p2, dpM s r1 e1, dpM s r2 e2, hs.1, hs.2, p.now s _ (.bl _)⟩
    · exact p.elim
  · exact p.elim
end
end Den
namespace Den
open PySem PySem.Spec PyProof.Rows L2
/-! ### told(lambda: e): try: return told().states / except X: return None -/
@[simp] def toldO (C CX : Addr) (fl : Str) (o : Out D) : Out D := match o with
  | .ok d M => match d with
    | .ins c [f] [d'] => if c = C ∧ f = fl then .ok d' M else .no
    | _ => .no
  | .exc x M => match x.cls with
    | .ref a => if a = CX then .ok .non M else .no
    | _ => .no
  | .no => .no
@[simp] def eTold (C CX : Addr) (fl : Str) (F : FE) : FE := fun ρ M => toldO C CX fl (F ρ M)
/-- a def that makes lambdas: its code object, its table -/
structure LamF (K : Kf) (x : Str) (c P : Addr) : Prop where
  tab : PySem.W.tabIn K x = some (c, P)
  mem : x ∈ lamNames
  one : ∀ y ∈ lamNames, ∀ p, PySem.W.tabIn K y = some p → p.2 = P → y = x
theorem LamF.inT {K : Kf} {x : Str} {c P : Addr} (L : LamF K x c P) : (P, (x ++ ".<locals>.") ++ "<lambda>") ∈ lamT K := List.mem_filterMap.mpr ⟨x, L.mem, by rw [L.tab]; rfl⟩
theorem LamF.sole {K : Kf} {x : Str} {c P : Addr} (L : LamF K x c P) : ∀ p ∈ lamT K, p.1 = P → p.2 = (x ++ ".<locals>.") ++ "<lambda>" := fun p hp e => by
  obtain ⟨y, hy, q⟩ := List.mem_filterMap.mp hp
  cases h : PySem.W.tabIn K y with
  | none => rw [h] at q; cases q
  | some r =>
    rw [h] at q
    cases q
    rw [L.one y hy r h e]
theorem LamF.tb {K : Kf} {mg : Str → Option Value} {base : Heap} {x : Str} {c P : Addr} (L : LamF K x c P) (B : LamB K mg base) : LamX.TabB base mg c P := B (c, P) (List.mem_filterMap.mpr ⟨x, L.mem, L.tab⟩)
theorem LamF.code {K : Kf} {x : Str} {c P f : Addr} (L : LamF K x c P) {oc cdv pm doc ct kV : Value} {od an : Option Addr} {osl : Array (Option Value)} {as : Arguments} {bd : List Stmt} {sc : Scope} {dV : Value} {qual : Str} (hn : PySem.W.nsIn K mainGlobals x = some (some (.ref f)))
    (lk : K.lookup f = some ⟨oc, od, .func (PySem.W.fnOf x qual as bd sc dV kV doc pm an cdv ct), osl⟩) : cdv = .ref c := by
  have t := L.tab
  unfold PySem.W.tabIn at t
  simp only [hn, lk] at t
  split at t
  · split at t
    · split at t
      · cases t; rfl
      · cases t
    · cases t
  · cases t
/-- what told asks of the lambda -/
def TProp (K : Kf) (C CX : Addr) (fl : Str) : (XK → Hp → VK → Prop) → Hp → VK → Prop := fun tl H Q =>
  tl (fun cls _ H' => ∃ b, PySem.W.exmOne K cls (.ref CX) = some b ∧ (b = true → Q .non H') ∧ (b = false → False)) H fun v H' => ∃ p dx fs w, v = .ref p ∧ H' p = some (.ins C dx fs) ∧ fs.lookup fl = some w ∧ Q w H'
section
variable {X : Cx} {E : XK} {e : Expr} {F : FE} {pos : Pos} {k : Nat}
theorem told_way {Ng : List Str} {x a n q f' fl : Str} {sg : Scope} {g C CXa pS fS : Addr} {cdg : Value} {fd : FuncData} {j : Nat} {p1 p2 p3 p4 p5 p6 p7 p8 p9 : Pos} (hgn : sg.names.lookup n = some .globalImplicit) (hmn : X.mg n = some (.ref CXa)) (hdn : (n == ("__debug__" : Str)) = false)
    (h0 : ∀ f : Addr, (L2.start Ng [V.ref f])[0]? = some (some (V.ref f))) (cl : Cls X.K C) (hp : PropOf X.K C f' pS fS) (G : FnOk X.prog X.w X.K X.mg X.base CX0 k fS fd ["self"] (getSp C fl)) (hb : Binds X.K fd ["self"] []) (hr : ∀ env, Room (k + 1) (X.A.deeper env))
    (hab : ∀ env : Env, attributeBase (.Call (.Name a p1) [] [] p2) f' env (eval (.Call (.Name a p1) [] [] p2) env) = eval (.Call (.Name a p1) [] [] p2) env) :
    LamX.GivesTo X Ng x sg g cdg [.Try [.Return (some (.Attribute (.Call (.Name a p1) [] [] p2) f' p9)) p3] [.ExceptHandler (some (.Name n p4)) none [.Return (some (.Constant .none j p5)) p6] p7] [] [] p8] a q (TProp X.K C CXa fl) := by
  intro f c' s H Q tl act hc h
  let Z : Cx := (cxOf C8.CX0 X.prog X.w X.K X.mg X.base Ng x sg g cdg X.A X.stack s H C8.E0).nox
  have gl : Gl Z n := hgn
  let way : XK := fun cls _ H' => ∃ b, PySem.W.exmOne X.K cls (.ref CXa) = some b ∧ (b = true → Q .non H') ∧ (b = false → False)
  let body : WX → TS := fun W D σ H2 => (∀ cls d σ' H', way cls d H' → W cls d σ' H') ∧ σ[0]? = some (some (.ref f)) ∧ H2 c' = some (LamX.CodeO c' q) ∧ tl way H2 fun v H' => ∃ p dx fs w, v = .ref p ∧ H' p = some (.ins C dx fs) ∧ fs.lookup fl = some w ∧ D.rt w H'
  refine ⟨_, pss_one (ps_try_only (X := Z) (c := .ref CXa) (tb := body) rfl rfl ⟨gl, hdn, .inl hmn⟩ takes0 (fun W pn xe tk _ => ⟨fun pins s2 σ H2 D I h2 => ?_⟩) fun a oe cls d pn _ _ => pss_one (ps_ret pe_non)), ?_⟩
  · obtain ⟨hW, h3, h4, h5⟩ := h2
    have call := act W pn xe way p1 p2 tk hW
    have whole := pss_one (ps_ret (pos := p3) (pe_prop (pos := p9) (E := EN) call cl hp G (hr _) hb .nil (fun _ _ _ _ _ _ _ y => y.elim) (hab _)))
    refine whole.run pins s2 σ H2 D I ⟨h3, h4, ?_⟩
    have same : (fun v H' => ∃ p dx fs w, v = V.ref p ∧ H' p = some (HO.ins C dx fs) ∧ fs.lookup fl = some w ∧ D.rt w H') = fun v H' => ∃ p dx fs, v = V.ref p ∧ H' p = some (HO.ins C dx fs) ∧ getSp C fl (V.ref p :: []) H' D.rt EN := by
      funext v H'
      refine propext ⟨?_, ?_⟩
      · rintro ⟨p, dx, fs, w, rfl, a1, a2, a3⟩
        exact ⟨p, dx, fs, rfl, a1, p, dx, fs, w, rfl, a1, a2, a3⟩
      · rintro ⟨p, dx, fs, rfl, a1, p', dx', fs', w, b1, b2, b3, b4⟩
        cases b1
        exact ⟨p, dx', fs', w, rfl, b2, b3, b4⟩
    rw [same] at h5
    exact h5
  · exact ⟨fun cls d σ' H' ⟨b, y1, y2, y3⟩ => ⟨b, y1, fun hb a _ => y2 hb, fun hb => y3 hb⟩, h0 f, hc, h⟩
theorem de_told {x a fl : Str} {st : Stmt} {g c P C CXa : Addr} {fd : FuncData} {Ng : List Str} {params : Arguments} {body : Expr} {scope : Scope} {p lpos : Pos} (Fn : Fun X.K x x st g fd) (hg : Gl X x) (hm : X.mg x = some (.ref g)) (hk : PySem.W.keepIn X.K (.ref g) = true) (hb : Binds X.K fd [a] [])
    (Sg : FnScope Ng [a] (defScope st)) (hNg : Ng[0]? = some a) (hva : Vis (defScope st) a) (hG : ∀ cdv, LamX.GivesTo X Ng x (defScope st) g cdv (defBody st) a (X.env.qual ++ "<lambda>") (TProp X.K C CXa fl)) {xq : Str} (hxq : X.env.qual = xq ++ ".<locals>.") (L : LamF X.K xq c P) (TB : LamB X.K X.mg X.base) (hcode : X.env.code = .ref c)
    (hr : Room (k + 2) X.A) (LS : LamX.LamS X.env.scope scope) (hex : PySem.W.exmOne X.K (.ref CXa) (.ref CXa) = some true) (hdef : defaultsOf params X.env = ([], []))
    (hbind : ∀ (q : Str) (cl : List (Str × Addr)) (pm cv ctv : Value), bindArgs (PySem.W.kla_fn "<lambda>" q params body scope cl pm cv ctv) ⟨[], []⟩ = pure [])
    (hbody : ∀ (A : Around) (outer : List Env) (s : Shared) (H : Hp) (E' : XK) (f c' : Addr), Room k (A.deeper (LamX.lamEnv X scope s.heap.objs.size f c')) → Passes (L2.CX X.prog X.w) (LamX.lamCx X A outer s H E' scope f c') E' → DE (LamX.lamCx X A outer s H E' scope f c') E' body F)
    (hdb : (x == ("__debug__" : Str)) = false := by decide) (hd : (a == ("__debug__" : Str)) = false := by decide) (hcd : (a == ("__classdict__" : Str)) = false := by decide) :
    DE X E (.Call (.Name x p) [.Lambda params body scope lpos] [] pos) (eTold C CXa fl F) := by
  obtain ⟨oc, od, kV, doc, pm, an, cdv, ct, osl, rfl, lk, hcd'⟩ := Fn.ex
  refine pe_imp (LamX.pe_lamcall (T := lamT X.K) (t := fun E' => teF X.K E' F) hg hm hk lk hcd' hb Sg hNg hva (hG cdv) (L.tb TB) hcode (by rw [hxq]; exact L.inT) (by rw [hxq]; exact L.sole) hr LS hdef hbind (fun A outer s H E' f c' hr' => hbody A outer s H E' f c' hr' (passes_call (takes_of rfl rfl rfl rfl) fun cls d σ H h => h)) hdb hd hcd) fun σ H Q ⟨μ, Hf, Fr, ρ, M, r, s, p⟩ => ?_
  refine ⟨s.tb, fun H1 ex t1 => ?_⟩
  have s1 := s.extN ex t1
  refine ⟨μ, Hf, Fr, ρ, M, r, s1, ?_⟩
  unfold eTold at p
  cases hF : F ρ M with
  | ok d M1 =>
    rw [hF] at p
    intro H' Hf' μ' e m s' v rv
    unfold toldO at p
    dsimp only at p
    split at p
    · rename_i c' f' d'
      split at p
      · rename_i hc
        obtain ⟨rfl, rfl⟩ := hc
        cases rv with
        | ins q kk t =>
          rename_i fv
          match fv, kk, t with
          | [(f1, v1)], kk, t =>
            have e1 : f1 = f' := by simpa using kk
            subst e1
            cases t with
            | cons r1 _ => exact ⟨_, _, _, v1, rfl, s'.ex _ _ q, by simp [List.lookup], p H' Hf' μ' e m s' _ r1⟩
      · exact p.elim
    · exact p.elim
  | exc xd M1 =>
    rw [hF] at p
    unfold toldO at p
    dsimp only at p
    intro dx H' Hf' μ' e m s' xr
    split at p
    · rename_i a' ha
      split at p
      · rename_i hC
        subst hC
        rw [ha]
        exact ⟨true, hex, fun _ => p H' Hf' μ' e m s' _ .non, fun z => by cases z⟩
      · exact p.elim
    · exact p.elim
  | no => rw [hF] at p; exact p.elim
/-! ### try: e / except C as n: return isinstance(n, D) and isinstance(n, T) -/
@[simp] def sTryIs (CX : Addr) (F : FE) : FS := fun ρ M => match F ρ M with
  | .ok _ M1 => .ok (.nx ρ) M1
  | .exc x M1 => match x.fs with
    | none => match x.cls with
      | .ref a => if a = CX then .ok (.rt (.bl true)) M1 else .no
      | _ => .no
    | some _ => .no
  | .no => .no
theorem ds_tryIs {i : Nat} {n nm c2 : Str} {np p1 p2 p3 p4 p5 p6 p7 p8 p9 p10 p11 pos' : Pos} {CB CX : Addr} {T : String} (hs : X.stack = X.env :: X.outer) (hf : X.env.frame = some X.env.locals) (hN : X.N.Nodup) (hi : X.N[i]? = some nm) (hln : X.env.kindOf nm = some .local) (hc : Names X n (.ref CB))
    (hex : PySem.W.exmOne X.K (.ref CX) (.ref CB) = some true) (EC : ExcC X.K CX) (k1 : PySem.W.kitOne X.K (.ref CX) (.ref CX) = some true) (k2 : PySem.W.kitOne X.K (.ref CX) (.type T) = some true)
    (hg1 : Gl X "isinstance") (hm1 : X.mg "isinstance" = none) (hv1 : bootBuiltins "isinstance" = some (.builtin "isinstance")) (hg2 : Gl X c2) (hm2 : X.mg c2 = some (.ref CX)) (hg3 : Gl X T) (hm3 : X.mg T = none) (hv3 : bootBuiltins T = some (.type T)) (hn3 : (T : Str) ≠ "__name__") (hd3 : ((T : Str) == ("__debug__" : Str)) = false) (hd2 : (c2 == ("__debug__" : Str)) = false)
    (he : ∀ (E' : XK) (pn : List (Addr × Obj)) (xe : Value → Shared → Prop), Passes (L2.CX X.prog X.w) (X.tr pn xe) E' → DE (X.tr pn xe) E' e F)
    (hvar : ∀ (a : Addr) (oe : Obj) (pn : List (Addr × Obj)) (p : Pos), PE (X.suite a ((a, oe) :: pn)) (.Name nm p) (tVar i))
    (hsw : ∀ env : Env, swapsWith e none pos'.line env = pure false) :
    DS X E (.Try [.Expr e pos'] [.ExceptHandler (some (.Name n np)) (some nm) [.Return (some (.BoolOp .And [.Call (.Name "isinstance" p1) [.Name nm p2, .Name c2 p3] [] p4, .Call (.Name "isinstance" p5) [.Name nm p6, .Name T p7] [] p8] p9)) p10] p11] [] [] pos) (sTryIs CX F) := by
  have hsu : ∀ (a : Addr) (oe : Obj) (pn : List (Addr × Obj)), Zc (.ref CX) none oe → (∃ vs, oe.data = .fields vs) → PE (X.suite a ((a, oe) :: pn)) (.BoolOp .And [.Call (.Name "isinstance" p1) [.Name nm p2, .Name c2 p3] [] p4, .Call (.Name "isinstance" p5) [.Name nm p6, .Name T p7] [] p8] p9) (fun σ H Q => σ[i]? = some (some (.ref a)) ∧ Q (.bl true) H) := by
    intro a oe pn hz hv
    have g1 : Gl (X.suite a ((a, oe) :: pn)) "isinstance" := hg1
    have g2 : Gl (X.suite a ((a, oe) :: pn)) c2 := hg2
    have g3 : Gl (X.suite a ((a, oe) :: pn)) T := hg3
    have one := pe_callB (pos := p4) (p := p1) (call_isE (X := X) (pn := pn) EC hz hv) g1 hm1 hv1 (pa_cons (hvar a oe pn p2) (pa_cons (pe_glob (pos := p3) (v := .ref CX) g2 hm2 rfl hd2) pa_nil))
    have two := pe_callB (pos := p8) (p := p5) (call_isE (X := X) (pn := pn) EC hz hv) g1 hm1 hv1 (pa_cons (hvar a oe pn p6) (pa_cons (pe_bltn (pos := p7) g3 hm3 hv3 (v := .ty T) rfl hn3 hd3) pa_nil))
    refine pe_imp (pe_andT one (pe_one two)) fun σ H Q ⟨h1, h2⟩ => ?_
    exact ⟨_, h1, _, _, true, rfl, fun u h => h, k1, true, rfl, iteT ⟨_, h1, _, _, true, rfl, fun u h => h, k2, h2⟩⟩
  refine ps_imp (ps_try_as (i := i) (Wout := fun _ _ _ _ => False) (tb := fun W D σ H => teF X.K (fun cls d H' => ∀ σ', W cls d σ' H') F σ H fun _ H' => D.nx σ H') (ts := fun a cls d D σ H => cls = .ref CX ∧ d = none ∧ (∃ σ0 : L2.St, σ = σ0.set i (some (.ref a))) ∧ D.rt (.bl true) H) hs hf hN hi hln hc takes0
    (fun W pn xe tk _ => pss_one (ps_expr (he _ pn xe (passes_call tk fun cls d σ H h => h σ)) (hsw _))) (fun a oe cls d pn hz hv => ⟨fun pins s σ H D I h => ?_⟩)) fun N σ H ⟨μ, Hf, Fr, ρ, M, r, s, p⟩ => ?_
  · obtain ⟨rfl, rfl, ⟨σ0, rfl⟩, h2⟩ := h
    have hlen := I.len
    rw [List.length_set] at hlen
    have hi' : i < X.N.length := (List.getElem?_eq_some_iff.mp hi).1
    exact (pss_one (ps_ret (hsu a oe pn hz hv))).run pins s _ H D I ⟨List.getElem?_set_self (by rw [hlen]; exact hi'), h2⟩
  · refine ⟨μ, Hf, Fr, ρ, M, r, s, ?_⟩
    unfold sTryIs at p
    cases hF : F ρ M with
    | ok d M1 =>
      rw [hF] at p
      exact fun H' Hf' μ' e m s' v rv => p H' Hf' μ' e m s' σ (r.mono e m)
    | exc xd M1 =>
      rw [hF] at p
      dsimp only at p
      intro dx H' Hf' μ' e m s' xr σ'
      split at p
      · rename_i hfs
        split at p
        · rename_i a ha
          split at p
          · rename_i hC
            subst hC
            have hd : dx = none := by unfold XRep at xr; rw [hfs] at xr; exact xr
            rw [ha, hd]
            exact ⟨true, hex, fun _ q hq => ⟨rfl, rfl, ⟨σ', rfl⟩, p H' Hf' μ' e m s' _ (.bl true)⟩, fun z => by cases z⟩
          · exact p.elim
        · exact p.elim
      · exact p.elim
    | no => rw [hF] at p; exact p.elim
end
end Den
namespace Den
open PySem PySem.Spec PyProof.Rows L2
/-! ### defs with lambdas -/
theorem tab_some {K : Kf} {x : Str} {f c P : Addr} {oc a : Value} {od b : Option Addr} {fd : FuncData} {osl d : Array (Option Value)} {vs : Array Value} (hn : PySem.W.nsIn K mainGlobals x = some (some (.ref f))) (l : K.lookup f = some ⟨oc, od, .func fd, osl⟩) (hc : fd.code = .ref c) (hl : K.lookup c = some ⟨a, b, .fields vs, d⟩)
    (h11 : (vs[11]? : Option Value) = some (.ref P)) : PySem.W.tabIn K x = some (c, P) := by
  unfold PySem.W.tabIn
  simp only [hn, l, hc, hl, h11]
theorem tab_none {K : Kf} {x : Str} (hn : PySem.W.nsIn K mainGlobals x = some none) : PySem.W.tabIn K x = none := by
  unfold PySem.W.tabIn
  simp only [hn]
section
variable {P : Program} {w : World} {K : Kf} {mg : Str → Option Value} {base : Heap} {st : Stmt}
/-- a def by its body, its code object known -/
theorem fnG_ofL {x : Str} {cL PL : Addr} {f : Addr} {fd : FuncData} {N ps : List Str} {k : Nat} {body : FS} (F : Fun K x x st f fd) (S : FnScope N ps (defScope st)) (LF : LamF K x cL PL) (hn : PySem.W.nsIn K mainGlobals x = some (some (.ref f)))
    (hb : ∀ (cdv : Value) (_ : cdv = .ref cL) (A : Around) (outer : List Env) (s : Shared) (H : Hp) (E : XK), Room k (A.deeper (envOfC x (defScope st) s.heap.objs.size f cdv)) → A.guards = some [] →
      DSs (cxOf CX0 P w K mg base N x (defScope st) f cdv A outer s H E).nox EN (defBody st) body) : FnG P w K mg base CX0 (k + 1) f fd ps (defF N.length body) := by
  obtain ⟨oc, od, kV, doc, pm, an, cdv, ct, osl, rfl, lk, hcd⟩ := F.ex
  constructor
  rintro A outer s H args us vs Q E hr hgd e0 hbd rv ⟨hl, μ, Hf, Fr, M, ds, ra, sr, z⟩
  have keep : ∀ b o, base.get? b = some o → s.heap.get? b = some o := fun b o e => (e0.bs b o e).1
  have kin := e0.mod.kin.keeps keep
  have kinds : ∀ y ∈ ps.zip us, (defScope st).names.lookup y.1 = some .local ∨ ((defScope st).names.lookup y.1 = some .cell ∧ ((cellsFrom (s.heap.objs.size + 1) (defScope st).names []).lookup y.1).isSome = true) := by
    rintro ⟨y, v⟩ hy
    exact (S.par y (List.of_mem_zip hy).1).imp _root_.id fun q => ⟨q, PySem.W.cellsFrom_some _ _ _ (.inl q)⟩
  refine codeAny_call_function hr.depth (kin _ _ lk) rfl S.co S.gen rfl (PySem.W.codeRec_of kin hcd) (hbd _ _ _ _ ?_)
  refine wpAny_newFunctionEnv_cells S.kind kinds ?_
  rintro env rfl s1 ent
  refine ⟨(e0.mod.nolimit.keeps keep).keeps ent.toInCall.keep, codeAny_func ?_⟩
  have I := inv_start (CX := CX0) (P := P) (w := w) (mg := mg) (E := E) (vs := vs) S hr.hd e0 hl rv ent
  have ran := (hb cdv (LF.code hn lk) A outer s H E (hr.deeper _) hgd).nox
  have want : tsF K EN body { nx := fun _ H' => Q .non H', rt := Q } (L2.start N vs) H := by
    refine ⟨μ, Hf, Fr, _, M, start_rep ra, sr, (post_noX z).weak fun f μ1 Hf1 H1 M1 e1 m1 s1 p1 => ?_⟩
    cases f with
    | rt d => exact fun v r1 => p1.now s1 v r1
    | nx ρ => exact fun _ _ => p1.now s1 _ .non
    | bk ρ => exact p1.elim
    | ct ρ => exact p1.elim
  refine wpAny_mono (ran.run [] s1 (L2.start N vs) H _ I want) (fun fl s' hs => ?_) fun e s' hs => hs
  match fl, hs with
  | .ret u, ⟨v, σ', H', J, rr, q⟩ => exact ⟨v, H', J.os, J.bare, J.base, J.hok, rr, q⟩
  | .next, ⟨σ', H', J, q⟩ => exact ⟨.non, H', J.os, J.bare, J.base, J.hok, rfl, q⟩
  | .brk, ⟨_, _, _, q⟩ => exact False.elim q
  | .cont, ⟨_, _, _, q⟩ => exact False.elim q
end
/-- all that is known of told -/
structure ToldC (P : Program) (w : World) (K : Kf) (mg : Str → Option Value) (base : Heap) (x a : Str) (C CXa : Addr) (fl : Str) : Prop where
  ex : ∃ (st : Stmt) (g : Addr) (fd : FuncData) (Ng : List Str), Fun K x x st g fd ∧ mg x = some (.ref g) ∧ PySem.W.keepIn K (.ref g) = true ∧ Binds K fd [a] [] ∧ FnScope Ng [a] (defScope st) ∧ Ng[0]? = some a ∧ Vis (defScope st) a ∧
    ∀ (X : Cx) (cdv : Value) (q : Str), X.prog = P → X.w = w → X.K = K → X.mg = mg → X.base = base → (∀ env, Room 2 (X.A.deeper env)) → LamX.GivesTo X Ng x (defScope st) g cdv (defBody st) a q (TProp X.K C CXa fl)
  hex : PySem.W.exmOne K (.ref CXa) (.ref CXa) = some true
theorem de_toldC {X : Cx} {E : XK} {F : FE} {pos : Pos} {k : Nat} {x a fl : Str} {c P C CXa : Addr} {params : Arguments} {body : Expr} {scope : Scope} {p lpos : Pos} (TC : ToldC X.prog X.w X.K X.mg X.base x a C CXa fl) {q : Str} {sc : Scope} (hg : Gl X x) (hq : X.env.qual = q ++ ".<locals>.") (hsc : X.env.scope = sc) (L : LamF X.K q c P) (TB : LamB X.K X.mg X.base) (hcode : X.env.code = .ref c)
    (hr : Room (k + 2) X.A) (hk : 1 ≤ k) (LS : LamX.LamS sc scope) (hdef : defaultsOf params X.env = ([], []))
    (hbind : ∀ (q : Str) (cl : List (Str × Addr)) (pm cv ctv : Value), bindArgs (PySem.W.kla_fn "<lambda>" q params body scope cl pm cv ctv) ⟨[], []⟩ = pure [])
    (hbody : ∀ (A : Around) (outer : List Env) (s : Shared) (H : Hp) (E' : XK) (f c' : Addr), Room k (A.deeper (LamX.lamEnv X scope s.heap.objs.size f c')) → Passes (L2.CX X.prog X.w) (LamX.lamCx X A outer s H E' scope f c') E' → DE (LamX.lamCx X A outer s H E' scope f c') E' body F)
    (hdb : (x == ("__debug__" : Str)) = false := by decide) (hd : (a == ("__debug__" : Str)) = false := by decide) (hcd : (a == ("__classdict__" : Str)) = false := by decide) :
    DE X E (.Call (.Name x p) [.Lambda params body scope lpos] [] pos) (eTold C CXa fl F) := by
  subst hsc
  obtain ⟨st, g, fd, Ng, Fn, hm, hkp, hb, Sg, hN, hv, hG⟩ := TC.ex
  exact de_told Fn hg hm hkp hb Sg hN hv (fun cdv => hG X cdv _ rfl rfl rfl rfl rfl fun env => (hr.mono (by omega : 3 ≤ k + 2)).deeper env) hq L TB hcode hr LS TC.hex hdef hbind hbody hdb hd hcd
end Den
namespace Den
open PySem PySem.Spec PyProof.Rows L2
/-! ### what is never come to -/
def sNo : FS := fun _ _ => .no
section
variable {P : Program} {w : World} {K : Kf} {mg : Str → Option Value} {base : Heap}
/-! ### defs with a star parameter -/
def spSt (K : Kf) (n : Nat) (g : GA) : Sp := fun vs H Q E => ∃ μ Hf Fr M ds rest, RepAll K μ Hf vs (ds ++ rest) ∧ ds.length = n ∧ rest.length ≤ lineD ∧ SR K μ Hf Fr H M ∧ Post K E (g (ds ++ [.tup rest]) M) μ Hf Fr (kD K Q)
theorem rep_cut {μ : List Addr} {H : Hp} {vs : List V} {ds rest : List D} (r : RepAll K μ H vs (ds ++ rest)) : ∃ us ws, vs = us ++ ws ∧ RepAll K μ H us ds ∧ RepAll K μ H ws rest :=
  ⟨vs.take ds.length, vs.drop ds.length, (List.take_append_drop _ _).symm, by have := r.take ds.length; simpa using this, by have := r.drop ds.length; simpa using this⟩
theorem fnX_star {name qual : Str} {st : Stmt} {f : Addr} {fd : FuncData} {N ps : List Str} {pv : Str} {k : Nat} {body : FS} (F : Fun K name qual st f fd) (S : FnScope N (ps ++ [pv]) (defScope st))
    (hbd : ∀ (kV doc pm cdv ct : Value) (an : Option Addr) (us rest : List Value), us.length = ps.length → bindArgs (PySem.W.fnOf name qual (defArgs st) (defBody st) (defScope st) .none kV doc pm an cdv ct) { pos := us ++ rest } = (newTuple rest >>= fun t => pure (ps.zip us ++ [(pv, t)])))
    (hb : ∀ (cdv : Value) (A : Around) (outer : List Env) (s : Shared) (H : Hp) (E : XK), Room k (A.deeper (envOfC qual (defScope st) s.heap.objs.size f cdv)) →
      Passes (L2.CX P w) (cxOf (L2.CX P w) P w K mg base N qual (defScope st) f cdv A outer s H E) E →
      DSs (cxOf (L2.CX P w) P w K mg base N qual (defScope st) f cdv A outer s H E) E (defBody st) body) : FnR P w K mg base (L2.CX P w) (k + 1) f (spSt K ps.length (defX N.length body)) := by
  obtain ⟨oc, od, kV, doc, pm, an, cdv, ct, osl, rfl, lk, hcd⟩ := F.ex
  refine fnr_imp (StX.fn_star (ps := ps) (pv := pv) (sp := spD K (ps ++ [pv]).length (defX N.length body)) lk hcd S StX.cxUp (hbd _ _ _ _ _ _) fun A outer s H vs Q E hr h => ⟨_, hb cdv A outer s H E hr (passes_call (takes_of rfl rfl rfl rfl) fun cls d σ H h => h), ?_⟩) ?_
  · obtain ⟨hl, μ, Hf, Fr, M, ds, ra, sr, z⟩ := h
    refine ⟨μ, Hf, Fr, _, M, start_rep ra, sr, z.split.weak fun f μ1 Hf1 H1 M1 e1 m1 s1 p1 => ?_⟩
    cases f with
    | rt d => exact fun v r1 => p1.now s1 v r1
    | nx ρ => exact fun _ _ => p1.now s1 _ .non
    | bk ρ => exact p1.elim
    | ct ρ => exact p1.elim
  · rintro vs H Q E ⟨μ, Hf, Fr, M, ds, rest, ra, hn, hl, s, p⟩
    obtain ⟨us, ws, rfl, r1, r2⟩ := rep_cut ra
    refine ⟨us, ws, rfl, by rw [r1.length, hn], line_le (by rw [r2.length]; exact hl), fun q hq => ?_⟩
    obtain ⟨s2, e2⟩ := s.froz (o := .tup ws) hq
    exact ⟨by simp [r1.length, hn], μ, _, Fr, M, ds ++ [.tup rest], (r1.mono e2 (List.prefix_refl _)).app (.cons (rep_tup r2 e2) .nil), s2, p.later e2 (List.prefix_refl _)⟩
end
section
variable {X : Cx} {E : XK} {a b c e o : Expr} {es rest : List Expr} {fa fb fc F : FE} {ft fu : FT} {fg : FA} {pos : Pos} {k : Nat} {x : Str} {p : Pos} {n : Nat} {g : GA} {st : Stmt}
theorem ds_no : DS X E st sNo := ⟨fun pins s σ H N I ⟨_, _, _, _, _, _, _, p⟩ => p.elim⟩
@[simp] def itemsT (d : D) (M : Mem) : Option (List D) := match d with
  | .tup xs => some xs
  | d => itemsD d M
/-! ### fields -/
@[simp] def eFld (C : Addr) (fl : Str) (F : FE) : FE := fun ρ M => (F ρ M).bind fun d M1 => match d with
  | .ins c [f] [d'] => if c = C ∧ f = fl then .ok d' M1 else .no
  | _ => .no
theorem ins_one {K : Kf} {μ : List Addr} {H : Hp} {v : V} {c : Addr} {f : Str} {d : D} (r : Rep K μ H v (.ins c [f] [d])) : ∃ q dx w, v = .ref q ∧ H q = some (.ins c dx [(f, w)]) ∧ Rep K μ H w d := by
  cases r with
  | ins q kk t =>
    rename_i a dx fv
    match fv, kk, t with
    | [(f1, v1)], kk, t =>
      have e1 : f1 = f := by simpa using kk
      subst e1
      cases t with
      | cons r1 _ => exact ⟨_, _, _, rfl, q, r1⟩
theorem de_fld {C : Addr} {fl : Str} (ha : DE X E o F) (cl : Cls X.K C) (na : NoAttr X.K C fl) (hb : attributeBase o fl X.env (eval o X.env) = eval o X.env := by rfl) : DE X E (.Attribute o fl pos) (eFld C fl F) := by
  refine pe_imp (pe_fld ha hb) fun σ H Q ⟨μ, Hf, Fr, ρ, M, r, s, p⟩ => ?_
  refine ⟨μ, Hf, Fr, ρ, M, r, s, p.split.weak fun d μ1 Hf1 H1 M1 e1 m1 s1 p1 v rv => ?_⟩
  split at p1
  · split at p1
    · rename_i hc
      obtain ⟨rfl, rfl⟩ := hc
      obtain ⟨q, dx, w, rfl, hq, rw⟩ := ins_one rv
      exact ⟨q, _, dx, _, w, rfl, s1.ex _ _ hq, cl, na, by simp [List.lookup], p1.now s1 _ rw⟩
    · exact p1.elim
  · exact p1.elim
/-! ### methods -/
@[simp] def insOk (C : Addr) (fl : Str) : D → Bool
  | .ins c [f] [_] => decide (c = C ∧ f = fl)
  | _ => false
theorem ins_ok {K : Kf} {μ : List Addr} {H : Hp} {v : V} {C : Addr} {fl : Str} {d : D} (r : Rep K μ H v d) (h : insOk C fl d = true) : ∃ q dx w, v = .ref q ∧ H q = some (.ins C dx [(fl, w)]) := by
  unfold insOk at h
  split at h
  · obtain ⟨rfl, rfl⟩ := of_decide_eq_true h
    obtain ⟨q, dx, w, e, hq, _⟩ := ins_one r
    exact ⟨q, dx, w, e, hq⟩
  · cases h
/-- o.m(e, ..), m with n parameters (the object one of them) and perhaps a star -/
@[simp] def eMeth (C : Addr) (fl : Str) (g : GA) (n : Nat) (fo : FE) (fg : FA) : FE := fun ρ M => (fo ρ M).bind fun d M1 => if insOk C fl d = true then (fg ρ M1).bind fun xs M2 => if xs.length + 1 = n then g (d :: xs) M2 else .no else .no
@[simp] def eMethSt (C : Addr) (fl : Str) (g : GA) (n : Nat) (fo : FE) (fg : FA) : FE := fun ρ M => (fo ρ M).bind fun d M1 => if insOk C fl d = true then (fg ρ M1).bind fun xs M2 => if 1 ≤ n ∧ n ≤ xs.length + 1 ∧ xs.length ≤ lineD then g ((d :: xs).take n ++ [.tup ((d :: xs).drop n)]) M2 else .no else .no
theorem de_meth {C f : Addr} {fl m : Str} {fd : FuncData} {ps : List Str} {apos : Pos} {pl : Sem Bool} (ho : DE X E o fa) (cl : Cls X.K C) (hm : Meth X.K C m f) (G : FnOk X.prog X.w X.K X.mg X.base (L2.CX X.prog X.w) k f fd ps (spD X.K n g)) (hb : Binds X.K fd ps []) (hne : (m == fl) = false) (hr : Room k X.A) (hx : Passes (L2.CX X.prog X.w) X E) (ha : DA X E (e :: es) fg)
    (hst : starEach (e :: es) X.env = (false, eval e X.env) :: starEach es X.env := by rfl) (hpl : (backTo pos (starEach es X.env)).any (·.1) = false := by rfl)
    (ht : eval (.Call (.Attribute o m apos) (e :: es) [] pos) X.env = (do
      let ov ← eval o X.env
      standAt apos.atName
      let (f, first) ← holding [ov] (getMethod ov m pl)
      callWith pos f first (backTo pos (starEach (e :: es) X.env)) (backToKw pos (keywordEach [] X.env))) := by rfl) : DE X E (.Call (.Attribute o m apos) (e :: es) [] pos) (eMeth C fl g n fa fg) := by
  refine pe_imp (pe_methR (E := E) ho cl hm (fnr_of G hb) hr hx ha hst hpl ht) fun σ H Q ⟨μ, Hf, Fr, ρ, M, r0, s, z⟩ => ?_
  refine ⟨μ, Hf, Fr, ρ, M, r0, s, z.split.weak fun d μ1 Hf1 H1 M1 e1 m1 s1 p1 v rv => ?_⟩
  split at p1
  · rename_i hi
    obtain ⟨q, dx, w, rfl, hq⟩ := ins_ok rv hi
    refine ⟨q, dx, _, rfl, s1.ex _ _ hq, by simp [List.lookup, hne], μ1, Hf1, Fr, ρ, M1, r0.mono e1 m1, s1, p1.split.weak fun xs μ2 Hf2 H2 M2 e2 m2 s2 p2 vs rs => ?_⟩
    split at p2
    · rename_i hn
      exact ⟨by rw [List.length_cons, rs.length]; exact hn, μ2, Hf2, Fr, M2, _, .cons (Rep.mono e2 m2 _ _ rv) rs, s2, p2⟩
    · exact p2.elim
  · exact p1.elim
theorem de_methSt {C f : Addr} {fl m : Str} {apos : Pos} {pl : Sem Bool} (ho : DE X E o fa) (cl : Cls X.K C) (hm : Meth X.K C m f) (G : FnR X.prog X.w X.K X.mg X.base (L2.CX X.prog X.w) k f (spSt X.K n g)) (hne : (m == fl) = false) (hr : Room k X.A) (hx : Passes (L2.CX X.prog X.w) X E) (ha : DA X E (e :: es) fg)
    (hst : starEach (e :: es) X.env = (false, eval e X.env) :: starEach es X.env := by rfl) (hpl : (backTo pos (starEach es X.env)).any (·.1) = false := by rfl)
    (ht : eval (.Call (.Attribute o m apos) (e :: es) [] pos) X.env = (do
      let ov ← eval o X.env
      standAt apos.atName
      let (f, first) ← holding [ov] (getMethod ov m pl)
      callWith pos f first (backTo pos (starEach (e :: es) X.env)) (backToKw pos (keywordEach [] X.env))) := by rfl) : DE X E (.Call (.Attribute o m apos) (e :: es) [] pos) (eMethSt C fl g n fa fg) := by
  refine pe_imp (pe_methR (E := E) ho cl hm G hr hx ha hst hpl ht) fun σ H Q ⟨μ, Hf, Fr, ρ, M, r0, s, z⟩ => ?_
  refine ⟨μ, Hf, Fr, ρ, M, r0, s, z.split.weak fun d μ1 Hf1 H1 M1 e1 m1 s1 p1 v rv => ?_⟩
  split at p1
  · rename_i hi
    obtain ⟨q, dx, w, rfl, hq⟩ := ins_ok rv hi
    refine ⟨q, dx, _, rfl, s1.ex _ _ hq, by simp [List.lookup, hne], μ1, Hf1, Fr, ρ, M1, r0.mono e1 m1, s1, p1.split.weak fun xs μ2 Hf2 H2 M2 e2 m2 s2 p2 vs rs => ?_⟩
    split at p2
    · rename_i hn
      refine ⟨μ2, Hf2, Fr, M2, (d :: xs).take n, (d :: xs).drop n, by rw [List.take_append_drop]; exact .cons (Rep.mono e2 m2 _ _ rv) rs, by rw [List.length_take, List.length_cons]; omega, ?_, s2, p2⟩
      rw [List.length_drop, List.length_cons]
      omega
    · exact p2.elim
  · exact p1.elim
/-- o.m(e, *y) -/
@[simp] def eMethSB (C : Addr) (fl : Str) (g : GA) (fo f1 f2 : FE) : FE := fun ρ M => (fo ρ M).bind fun d M1 => if insOk C fl d = true then (f1 ρ M1).bind fun x M2 => (f2 ρ M2).bind fun y M3 => match itemsT y M3 with
  | some xs => if xs.length ≤ lineD then g [d, x, .tup xs] M3 else .no
  | none => .no
  else .no
theorem seq_of {K : Kf} {μ : List Addr} {Hf Fr H : Hp} {M : Mem} {v : V} {d : D} {ds : List D} (s : SR K μ Hf Fr H M) (r : Rep K μ Hf v d) (h : itemsT d M = some ds) : ∃ a vs, v = .ref a ∧ (SqT K H a vs ∨ SqL K H a vs) ∧ RepAll K μ Hf vs ds := by
  unfold itemsT at h
  split at h
  · cases h
    cases r with
    | tup q t => exact ⟨_, _, rfl, .inl (same_t s.ex q), t⟩
  · obtain ⟨a, vs, e, q, t⟩ := items_of s r h
    exact ⟨a, vs, e, .inr q, t⟩
theorem de_methSB {C f : Addr} {fl m : Str} {e1 e2 : Expr} {p2 apos : Pos} (ho : DE X E o fa) (cl : Cls X.K C) (b : BMeth X.K C m f) (G : FnR X.prog X.w X.K X.mg X.base (L2.CX X.prog X.w) k f (spSt X.K 2 g)) (hne : (m == fl) = false) (hr : Room k X.A) (hx : Passes (L2.CX X.prog X.w) X E) (h1 : DE X E e1 fb) (h2 : DE X E e2 fc)
    (hbase : attributeBase o m X.env (eval o X.env) = eval o X.env := by rfl) (hst : starEach [e1, .Starred e2 p2] X.env = [(false, eval e1 X.env), (true, eval e2 X.env)] := by rfl) : DE X E (.Call (.Attribute o m apos) [e1, .Starred e2 p2] [] pos) (eMethSB C fl g fa fb fc) := by
  refine pe_imp (pe_methSB (E := E) ho cl b G hr hx h1 h2 hbase hst) fun σ H Q ⟨μ, Hf, Fr, ρ, M, r0, s, z⟩ => ?_
  refine ⟨μ, Hf, Fr, ρ, M, r0, s, z.split.weak fun d μ1 Hf1 H1 M1 e1' m1 s1 p1 v rv => ?_⟩
  split at p1
  · rename_i hi
    obtain ⟨q, dx, w, rfl, hq⟩ := ins_ok rv hi
    refine ⟨q, dx, _, rfl, s1.ex _ _ hq, by simp [List.lookup, hne], fun bm nb => ?_⟩
    have fb' : Fr bm = none := s1.fr.free nb
    have s2 := s1.hide (o := .met f q) nb
    refine ⟨μ1, Hf1, upd Fr bm (.met f q), ρ, M1, r0.mono e1' m1, s2, (p1.split.fr fb').weak fun y μ2 Hf2 H2 M2 e2' m2 s3 p2' v2 r2 => ?_⟩
    refine ⟨μ2, Hf2, upd Fr bm (.met f q), ρ, M2, (r0.mono e1' m1).mono e2' m2, s3, (p2'.split.fr fb').weak fun y3 μ3 Hf3 H3 M3 e3' m3 s4 p3 v3 r3 => ?_⟩
    split at p3
    · rename_i xs hxs
      split at p3
      · rename_i hl
        obtain ⟨a3, vs, rfl, hs3, t3⟩ := seq_of s4 r3 hxs
        refine ⟨a3, vs, rfl, hs3, s4.fr bm _ upd_same, μ3, Hf3, upd Fr bm (.met f q), M3, [d, y], xs, .cons (Rep.mono e3' m3 _ _ (Rep.mono e2' m2 _ _ rv)) (.cons (Rep.mono e3' m3 _ _ r2) t3), rfl, hl, s4, p3.fr fb'⟩
      · exact p3.elim
    · exact p3.elim
  · exact p1.elim
/-- C(*e), C by its name -/
@[simp] def eMkS (C CX : Addr) (fl : Str) (g : GA) (F : FE) : FE := fun ρ M => (F ρ M).bind fun d M1 => match itemsT d M1 with
  | some xs => mkF C CX fl g xs M1
  | none => .no
theorem de_mkS {C CXa fI : Addr} {fl : Str} {p2 : Pos} (Mo : Mk X.K C fI) (G : FnR X.prog X.w X.K X.mg X.base (L2.CX X.prog X.w) k fI (spMk X.K C CXa fl g)) (hr : Room (k + 1) X.A) (hg : Gl X x) (hm : X.mg x = some (.ref C)) (hx : Passes (L2.CX X.prog X.w) X E) (he : DE X E e F)
    (hdb : (x == ("__debug__" : Str)) = false := by decide) (hst : starEach [.Starred e p2] X.env = [(true, eval e X.env)] := by rfl) : DE X E (.Call (.Name x p) [.Starred e p2] [] pos) (eMkS C CXa fl g F) := by
  refine pe_imp (pe_clsStar Mo G hr hx (pe_glob (v := .ref C) hg hm rfl hdb) he hst) fun σ H Q ⟨μ, Hf, Fr, ρ, M, r0, s, z⟩ => ?_
  refine ⟨rfl, μ, Hf, Fr, ρ, M, r0, s, z.split.weak fun d μ1 Hf1 H1 M1 e1 m1 s1 p1 v rv => ?_⟩
  split at p1
  · rename_i xs hxs
    obtain ⟨a, vs, rfl, hs, t⟩ := seq_of s1 rv hxs
    exact ⟨a, vs, rfl, hs, mk_go t s1 p1⟩
  · exact p1.elim
/-- o[e], by __getitem__ -/
@[simp] def eItem (C : Addr) (fl : Str) (g : GA) (fo fi : FE) : FE := fun ρ M => (fo ρ M).bind fun d M1 => (fi ρ M1).bind fun y M2 => if insOk C fl d = true then g [d, y] M2 else .no
structure GetIt (K : Kf) (C f : Addr) : Prop where
  at_ : PySem.W.findIn K (.ref C) "__getitem__" = some (some (.ref f))
  fi : PySem.W.fnIn K f = true
  fn : PySem.W.isFn K (.ref f) = true
theorem pe_item {C f : Addr} {sp : Sp} {ta tb : TE} {i : Expr} (ha : PE X o ta) (hi : PE X i tb) (T : GetIt X.K C f) (G : FnR X.prog X.w X.K X.mg X.base (L2.CX X.prog X.w) k f sp) (hr : Room (k + 1) X.A) (hx : Passes (L2.CX X.prog X.w) X E)
    (hsl : ∀ v w, subscripted i true v w = runValue (.builtin "lifetime.subscript" ⟨[v, w], []⟩)) :
    PE X (.Subscript o i pos) (tOp (fun x y H Q => ∃ a dx fs, x = .ref a ∧ H a = some (.ins C dx fs) ∧ sp [x, y] H Q E) ta tb) := by
  refine ⟨fun pins s σ H Q I h => Subscript_ (binT ha hi I h fun v u s2 x y H2 I2 rx ry ⟨a, dx, fs, ex, hq, q⟩ => ?_)⟩
  subst ex
  obtain rfl : v = Value.ref a := rx
  obtain ⟨mA, O, _⟩ := ins_get I2.hok hq
  obtain ⟨od, J, _⟩ := O.look
  obtain ⟨mL, hns, _⟩ := I2.loc
  have up : X.base.objs.size ≤ X.env.locals := Nat.le_trans I2.ok.bsz I2.ok.above
  refine PySem.W.sub_K (h₀ := X.base) (L := X.env.locals) (m := mL) ⟨hns, fun b o' e => (I2.bs b o' e).1, up⟩ I2.ok.mod.kin J T.at_ T.fi T.fn (wpAny_call ?_) (hsl _ _)
  refine codeAny_mono (G X.A.in1 X.stack s2 H2 [.ref a, u] [.ref a, y] Q E hr.in1 I2.env0.in1 (.cons rfl (.cons ry .nil)) q) fun r s' hq' => ?_
  cases r with
  | error er => exact hx pins σ H2 s2 er s' I2 hq'
  | ok fl =>
    cases fl with
    | ret u2 => exact I2.after hq'
    | next => exact False.elim hq'
    | brk => exact False.elim hq'
    | cont => exact False.elim hq'
theorem de_item {C f : Addr} {fl : Str} {fd : FuncData} {ps : List Str} {i : Expr} (ha : DE X E o fa) (hi : DE X E i fb) (T : GetIt X.K C f) (G : FnOk X.prog X.w X.K X.mg X.base (L2.CX X.prog X.w) k f fd ps (spD X.K 2 g)) (hb : Binds X.K fd ps []) (hr : Room (k + 1) X.A) (hx : Passes (L2.CX X.prog X.w) X E)
    (hsl : ∀ v w, subscripted i true v w = runValue (.builtin "lifetime.subscript" ⟨[v, w], []⟩)) : DE X E (.Subscript o i pos) (eItem C fl g fa fb) := by
  refine pe_imp (pe_item ha hi T (fnr_of G hb) hr hx hsl) fun σ H Q ⟨μ, Hf, Fr, ρ, M, r, s, p⟩ => ?_
  refine ⟨μ, Hf, Fr, ρ, M, r, s, p.split.weak fun d μ1 Hf1 H1 M1 e1 m1 s1 p1 v rv => ?_⟩
  refine ⟨μ1, Hf1, Fr, ρ, M1, r.mono e1 m1, s1, p1.split.weak fun y μ2 Hf2 H2 M2 e2 m2 s2 p2 v2 r2 => ?_⟩
  split at p2
  · rename_i hi
    have rv' := Rep.mono e2 m2 _ _ rv
    obtain ⟨q, dx, w, rfl, hq⟩ := ins_ok rv' hi
    exact ⟨q, dx, _, rfl, s2.ex _ _ hq, rfl, μ2, Hf2, Fr, M2, [d, y], .cons rv' (.cons r2 .nil), s2, p2⟩
  · exact p2.elim
end
end Den
namespace Den
open PySem PySem.Spec PyProof.Rows L2
section
variable {X : Cx} {E : XK} {es : List Expr} {pos : Pos}
/-! ### targets of a list's parts -/
@[simp] def gTl (is : List Nat) : TgD := fun d ρ => match d with
  | .lst xs => gNms is xs ρ
  | _ => none
theorem dg_lst {k : Nat} {is : List Nat} (hc : X.calm = true) (h : DGs X es is) (hn : (assignEach es X.env).length = is.length := by rfl) (hst : (assignEach es X.env).findIdx? (·.1) = none := by rfl) : DG X (.Tuple es k pos) (gTl is) is := by
  refine pg_imp (pg_lst hc h.pgs hn hst) fun v σ H Q ⟨μ, Hf, ρ, d, ρ', e, r, rv, hg, k⟩ => ?_
  unfold gTl at hg
  split at hg
  · cases rv with
    | lst q t => exact ⟨_, _, rfl, SqL.of (e _ _ q), by rw [t.length]; exact gNms_len hg, gNms_go is t r hg k⟩
  · cases hg
/-! ### raise C('..'), C of one's own -/
@[simp] def sRaise (CX : Addr) : FS := fun _ M => .exc ⟨.ref CX, none⟩ M
theorem ds_raise {st : Stmt} {CX : Addr} (h : PS X st (fun _ _ H => E (.ref CX) none H)) : DS X E st (sRaise CX) := by
  refine ps_imp h fun N σ H ⟨μ, Hf, Fr, ρ, M, r, s, p⟩ => ?_
  exact p none H Hf μ (Same.refl _) (List.prefix_refl _) s rfl
end
end Den
namespace Den
open PySem PySem.Spec PyProof.Rows L2
/-! ### an exception of one's own with a field, from any built-in one -/
structure XG (K : Kf) (C : Addr) (bmB : List Value) (newId : String) (f : Str) : Prop where
  ini : PySem.W.excInitIn K C bmB newId = true
  hd : PySem.W.hasDictIn K C = true
  no : PySem.W.findIn K (.ref C) f = some none
  sa : PySem.W.findIn K (.ref C) "__setattr__" = some (some (.builtin "object.__setattr__"))
  exC : PySem.W.subIn K (.ref C) (.type "BaseException") = some true
  tyC : PySem.W.typeIn K (.ref C) = some (.type "type")
  kC : PySem.W.keepIn K (.ref C) = true
theorem XG.cd {K : Kf} {C : Addr} {bmB : List Value} {nw : String} {f : Str} (T : XG K C bmB nw f) : ∃ c bm, PySem.W.clsIn K C = some c ∧ c.hasDict = true ∧ c.mro = .ref C :: bm ∧ PySem.W.excTail bmB bm = true := by
  have h := T.hd
  unfold PySem.W.hasDictIn at h
  cases hc : PySem.W.clsIn K C with
  | none => rw [hc] at h; cases h
  | some c =>
    rw [hc] at h
    have q := T.ini
    unfold PySem.W.clsIn at hc
    split at hc
    · rename_i v1 v2 c' v3 ho
      cases hc
      unfold PySem.W.excInitIn at q
      rw [ho] at q
      split at q
      · rename_i w1 w2 w3 w4 e
        cases e
        split at q
        · rename_i C' bm' _ _ _ _ n _ hm hs
          simp only [Bool.and_eq_true, beq_iff_eq, Bool.not_eq_true'] at q
          obtain ⟨⟨⟨z1, z2⟩, z3⟩, z4⟩ := q
          subst z1
          exact ⟨c, bm', rfl, h, hm, z4⟩
        · cases q
      · cases q
    · cases hc
theorem XG.over {K : Kf} {C : Addr} {bmB : List Value} {nw : String} {f : Str} (T : XG K C bmB nw f) : PySem.W.excOver K C bmB = true := by
  obtain ⟨c, bm, h1, _, h3, h4⟩ := T.cd
  unfold PySem.W.excOver
  rw [h1]
  simp [h3, h4]
section
open PySem.W PySem.Calls Builtin Builtin.ObjectAttr
variable {prog : Program} {w : World} {A : Around} {R : Result → Shared → Prop} {h1 : Heap} {gs : Array GenState} {dr : Drawn} {tt : Nat} {oss : OsState}
theorem fld_new {K : W.Frag} {B : String} {bmB : List Value} {nm : Str} {tk1 : Tok} {val : Value} {x C : Addr} {fv : Array Value} {cd : ClassData} (SF : StoreFacts B bmB "object.__setattr__" "object") (inK : K.In h1) (hx : h1.get? x = some { cls := .ref C, data := .fields fv })
    (hcd : W.clsIn K C = some cd) (hdt : cd.hasDict = true) (ov : excOver K C bmB = true) (tn : takerIn K C nm = some none)
    (hR : ∀ h2 tk2 dx, (∀ b o, b ≠ x → h1.get? b = some o → h2.get? b = some o) → h1.objs.size ≤ dx → dx ≠ x → h2.get? x = some { cls := .ref C, dict := some dx, data := .fields fv } → h2.Ns1 dx (fun y => if y = nm then some val else none) → R (.ok (.ret .none)) ⟨h2, gs, dr, tk2, oss⟩) :
    codeAny (model prog w) A (.call (.builtin "object.__setattr__") ⟨[.ref x, .str nm tk1, val], []⟩) R ⟨h1, gs, dr, tt, oss⟩ := by
  have far : x ≠ h1.objs.size := Nat.ne_of_lt (Heap.lt_size hx)
  refine osa_openX SF inK (ox := { cls := .ref C, data := .fields fv }) (od := none) ⟨hx, rfl, rfl, trivial⟩ ov tn fun b => ?_
  dsimp only
  have lc : W.Looks (model prog w) h1 (classData C) cd := W.looks_clsIn inK hcd
  obtain ⟨c1, c2, c3, c4, c5, c6, c7, c8, c9, c10, c11⟩ := cd
  dsimp only at hdt
  subst hdt
  unfold storeInOwnDict ownDictForStores
  repeat (first | (with_reducible refine HandSPX.store_in_new ?_ ?_) | (with_reducible refine wpAny_loadPart_at hx ?_) | (with_reducible refine lc.at ?_) | wp_step)
  · exact ⟨_, #[], _, (Heap.get?_update_ne _ _ _ _ far.symm).trans (Heap.get?_push_at rfl rfl), rfl, fun e he => absurd he (by simp), fun _ => rfl⟩
  · intro h2 tk2 n2 sb
    have hx2 : (h1.push { cls := .type "dict", data := .dict #[] }).get? x = some { cls := .ref C, data := .fields fv } := Heap.get?_push_of_some _ hx
    exact hR h2 tk2 h1.objs.size (fun b o hb ho => (sb.2 b (Nat.ne_of_lt (Heap.lt_size ho))).trans ((Heap.get?_update_ne _ _ _ _ hb).trans (Heap.get?_push_of_some _ ho))) (Nat.le_refl _) far.symm ((sb.2 x far).trans (Heap.get?_update_self _ hx2 rfl)) n2
end
end Den
namespace Den
open PySem PySem.Spec PyProof.Rows L2
section
variable {X : Cx} {pins : List (Addr × Obj)} {σ : L2.St} {H : Hp} {s : Shared} {a C : Addr} {f : Str} {y : V} {u : Value} {B : String} {bmB : List Value} {nw iw : String}
theorem XG.taker {K : Kf} (T : XG K C bmB nw f) : PySem.W.takerIn K C f = some none := by
  unfold PySem.W.takerIn
  rw [T.no]; rfl
/-- the field's store -/
theorem st_field {A : Around} {Q : Unit → Shared → Prop} {E : Value → Shared → Prop} (T : XG X.K C bmB nw f) (SF : StoreFacts B bmB "object.__setattr__" "object") (I : Inv X pins σ H s) (hA : H a = some (exo a C none)) (ry : RelV y u)
    (h : ∀ dx s', H dx = none → dx ≠ a → Inv X pins σ (upd (upd H dx (exd dx [(f, y)])) a (exo a C (some dx))) s' → Q () s') : wpAny (model X.prog X.w) A (setAttr (.ref a) f u) Q E s := by
  obtain ⟨cd, bm, hcl, hdt, _, _⟩ := T.cd
  obtain ⟨tq, ho⟩ := exo_at I.hok hA
  obtain ⟨h1, g1, d1, k1, o1⟩ := s
  refine PySem.W.set_plain I.kIn (ox := { cls := .ref C, dict := none, data := .fields #[.ref tq, .none, .none, .none, .bool false, .none] }) (od := none) ⟨ho, rfl, rfl, trivial⟩ T.sa ?_
  refine fld_new SF I.kIn ho hcl hdt T.over T.taker (fun h2 k2 dx kp nd dne hx2 hn2 => ?_)
  have zd : H dx = none := I.hok.fresh nd
  have ltd : ∀ {b : Addr} {o : Obj}, h1.get? b = some o → b ≠ dx := fun {b o} q => Nat.ne_of_lt (Nat.lt_of_lt_of_le (Heap.lt_size q) nd)
  have nea : ∀ {b : Addr}, H b = none → b ≠ a := fun {b} n z => by
    rw [z, hA] at n; cases n
  have both : ∀ {b : Addr} {o : HO}, H b = some o → o ≠ exo a C none → upd (upd H dx (exd dx [(f, y)])) a (exo a C (some dx)) b = some o := fun {b o} q n => by
    have h1' : b ≠ a := fun z => by rw [z, hA] at q; exact n (Option.some.inj q).symm
    have h2' : b ≠ dx := fun z => by rw [z, zd] at q; cases q
    rw [upd_ne h1', upd_ne h2']; exact q
  have U : Un X.fs [] H (upd (upd H dx (exd dx [(f, y)])) a (exo a C (some dx))) h1 h2 := {
    keep := fun b1 o1 q1 n1 _ _ => kp b1 o1 (nea n1) q1
    slot := fun b1 o1 q1 n1 _ _ => ⟨o1.slots, kp b1 o1 (nea n1) q1⟩
    free := fun b1 o1 q1 n1 _ => by rw [upd_ne (nea n1), upd_ne (ltd q1)]; exact n1
    there := fun b1 o1 q1 _ => by
      by_cases hb : b1 = a
      · exact ⟨_, by rw [hb]; exact hx2⟩
      · exact ⟨o1, kp b1 o1 hb q1⟩
    tups := fun b1 xs q1 => both q1 fun z => exo_tup z.symm
    frzs := fun b1 o1 v1 q1 => both q1 fun z => exo_frz z.symm
    tbls := fun b1 ps q1 => ⟨#[], by rw [both q1 fun z => exo_tbl z.symm]; simp⟩ }
  refine h dx _ zd dne (I.un (t' := k2) U fun b1 o1 q1 => ?_)
  by_cases hb : b1 = a
  · subst hb
    rw [upd_same] at q1; cases q1
    exact exo_ok hx2
  · rw [upd_ne hb] at q1
    by_cases hd1 : b1 = dx
    · subst hd1
      rw [upd_same] at q1; cases q1
      exact exd_ok hn2 (relO_put (fs := []) ry fun g => True.intro)
    · rw [upd_ne hd1] at q1
      exact (I.hok b1 o1 q1).stay (fun c v hc z => kp c v (by
          rcases hc with hc | hc
          · rw [hc]; exact hb
          · exact fun z' => by rw [z', hA] at hc; exact exo_own (Option.some.inj hc)) z)
        (fun c hc => both hc fun z => exo_own z.symm) (fun c xs hc => both hc fun z => exo_tup z.symm)
/-- what the __init__ of such a class does -/
def spIX (C : Addr) (f : Str) : Sp := fun vs H Q _ => ∃ (a : Addr) (y : V), vs = [.ref a, y] ∧ H a = some (exo a C none) ∧ ∀ dx, H dx = none → dx ≠ a → Q .non (upd (upd H dx (exd dx [(f, y)])) a (exo a C (some dx)))
theorem ps_field {o e : Expr} {to te : TE} {p' pos : Pos} (SF : StoreFacts B bmB "object.__setattr__" "object") (T : XG X.K C bmB nw f) (ho : PE X o to) (he : PE X e te) (hs : swapsWith e (some (.Attribute o f p')) pos.line X.env = pure false := by rfl) :
    PS X (.Assign [.Attribute o f p'] e pos) (fun D σ H => te σ H fun y H1 => to σ H1 fun x H2 => ∃ a : Addr, x = .ref a ∧ H2 a = some (exo a C none) ∧ ∀ dx, H2 dx = none → dx ≠ a → D.nx σ (upd (upd H2 dx (exd dx [(f, y)])) a (exo a C (some dx)))) := by
  refine ⟨fun pins s σ H D I h => ?_⟩
  refine plainObj_wpAny_Assign_Attribute (thn (he.run pins s σ H _ I h) fun v1 s1 ⟨y, H1, I1, r1, q1⟩ => thn (ho.run pins s1 σ H1 _ I1 q1) fun u2 s2 ⟨x, H2, I2, r2, a, ex, ea, q⟩ => ?_) hs
  subst ex
  obtain rfl : u2 = Value.ref a := r2
  exact st_field T SF I2 ea r1 fun dx s' n ne J => ⟨σ, _, J, q dx n ne⟩
end
section
variable {P : Program} {w : World} {K : Kf} {mg : Str → Option Value} {base : Heap}
theorem fn_fieldInit {CX : CXT} {k : Nat} {C fI : Addr} {f : Str} {B : String} {bmB : List Value} {nw : String} {qual : Str} {st : Stmt} {fd : FuncData} {N ps : List Str} {p1 p2 p3 p4 : Pos} {v : Str} (F : Fun K "__init__" qual st fI fd) (S : FnScope N ps (defScope st)) (hps : ps = [("self" : Str), v]) (hN : N = [("self" : Str), v])
    (hbd : defBody st = [.Assign [.Attribute (.Name "self" p1) f p2] (.Name v p3) p4]) (SF : StoreFacts B bmB "object.__setattr__" "object") (T : XG K C bmB nw f) (hsw : ∀ env : Env, swapsWith (.Name v p3) (some (.Attribute (.Name "self" p1) f p2)) p4.line env = pure false) (hv1 : (v == ("__debug__" : Str)) = false) (hv2 : (v == ("__classdict__" : Str)) = false) :
    FnOk P w K mg base CX (k + 1) fI fd ps (spIX C f) := by
  subst hps
  subst hN
  obtain ⟨oc, od, kV, doc, pm, an, cdv, ct, osl, rfl, lk, hcd⟩ := F.ex
  refine fn_of lk hcd S (fun vs H Q E h => ?_) (fun A outer s H vs Q E hr h => ?_)
  · obtain ⟨a, y, e, _⟩ := h
    rw [e]; rfl
  · obtain ⟨a, y, e, ea, q⟩ := h
    subst e
    rw [hbd]
    refine ⟨_, pss_one (ps_field SF T (pe_var (i := 0) rfl ((S.par "self" (by simp)).elim (fun z => .inl z) (fun z => .inr (.inl z)))) (pe_var (i := 1) rfl ((S.par v (by simp)).elim (fun z => .inl z) (fun z => .inr (.inl z))) (hd := hv1) (hcd := hv2)) (hsw _)), ?_⟩
    exact ⟨y, rfl, .ref a, rfl, a, rfl, ea, fun dx n ne => q dx n ne⟩
end
end Den
namespace Den
open PySem PySem.Spec PyProof.Rows L2
section
variable {X : Cx} {f : Str} {C fI : Addr} {B : String} {bmB : List Value} {nw iw : String} {e : Expr} {es : List Expr} {ta : TA} {p pos : Pos}
theorem heap_end {H : Hp} {a d C : Addr} {fs : List (Str × V)} (na : H a = none) (ne : d ≠ a) : upd (del (upd (upd (upd H a (exo a C none)) d (exd d fs)) a (exo a C (some d))) a) d (.xd fs) = upd H d (.xd fs) := by
  funext b
  by_cases h1 : b = d
  · subst h1; rw [upd_same, upd_same]
  · rw [upd_ne h1, upd_ne h1]
    by_cases h2 : b = a
    · subst h2; rw [del_same, na]
    · rw [del_ne h2, upd_ne h2, upd_ne h1, upd_ne h2]
/-- C(e), C's own __init__ keeping e in a field -/
theorem pmk_field {CX : CXT} {x : Str} {k : Nat} {fd : FuncData} {ps : List Str} (FB : ExcBaseFacts B nw iw bmB) (T : XG X.K C bmB nw f) (iC : PySem.W.findIn X.K (.ref C) "__init__" = some (some (.ref fI))) (tI : PySem.W.typeIn X.K (.ref fI) = some (.type "function"))
    (F1 : FnOk X.prog X.w X.K X.mg X.base CX k fI fd ps (spIX C f)) (hr : Room (k + 1) X.A) (hb : Binds X.K fd ps []) (hx : Passes CX X (fun _ _ _ => False)) (gl : Gl X x) (hm : X.mg x = some (.ref C)) (ha : PA X (e :: es) ta)
    (hdb : (x == ("__debug__" : Str)) = false := by decide) (hst : starEach (e :: es) X.env = (false, eval e X.env) :: starEach es X.env := by rfl) (hpl : (backTo pos (starEach es X.env)).any (·.1) = false := by rfl) :
    PMk X (.Call (.Name x p) (e :: es) [] pos) (fun σ H Q => ta σ H fun vs H1 => ∃ y, vs = [y] ∧ ∀ d, H1 d = none → Q (.ref C) (some d) (upd H1 d (.xd [(f, y)]))) := by
  intro pins s0 σ H Q I0 h0
  have qI := T.ini
  refine wpAny_Call_Name_kw (ld_glob I0 gl hm ?_ hdb); refine PySem.W.callWith_K (h₀ := X.base) I0.ok.mod.kin T.kC (thn (ha.run pos pins _ σ H _ I0 h0) fun us s1 ⟨vs, H1, I1, r1, y, ev, q1⟩ => ⟨I1.kIn, ?_⟩) hst hpl
  subst ev
  show wpAny _ _ (call (.ref C) us) _ _ _
  obtain ⟨nm, N, q, bs, bm, hdct, sn, sub, ab, col, dd, k0, k1, k2, k3, k5, hC, hT⟩ := PySem.W.excInit_of I1.kIn qI
  obtain ⟨h1, g1, d1, t1, o1⟩ := s1
  let a : Addr := h1.objs.size + 1
  have sz : h1.objs.size ≤ a := Nat.le_succ _
  have na : H1 a = none := I1.hok.fresh sz
  have keep : ∀ b o, h1.get? b = some o → ((h1.push (PySem.W.kdv_tup us)).push (PySem.HandSPX.excO C h1.objs.size)).get? b = some o := fun b o z => Heap.get?_push_of_some _ (Heap.get?_push_of_some _ z)
  have got : ((h1.push (PySem.W.kdv_tup us)).push (PySem.HandSPX.excO C h1.objs.size)).get? (h1.objs.size + 1) = some (PySem.HandSPX.excO C h1.objs.size) := by heap_get
  have I2 : Inv X pins σ (upd H1 a (exo a C none)) ⟨(h1.push (PySem.W.kdv_tup us)).push (PySem.HandSPX.excO C h1.objs.size), g1, d1, t1, o1⟩ := I1.laid (t' := t1) (a := a) (o := exo a C none) (h' := (h1.push (PySem.W.kdv_tup us)).push (PySem.HandSPX.excO C h1.objs.size)) keep sz (exo_ok got)
  have r2 : Vals [V.ref a, y] (Value.ref a :: us) := .cons rfl r1
  have sp : spIX C f [V.ref a, y] (upd H1 a (exo a C none)) (fun v H2 => v = .non ∧ ∃ (d : Addr) (fs : List (Str × V)), H2 a = some (exo a C (some d)) ∧ H2 d = some (exd d fs) ∧ H1 d = none ∧ Q (.ref C) (some d) (upd (del H2 a) d (.xd fs))) (fun _ _ _ => False) := by
    refine ⟨a, y, rfl, upd_same, fun dx n ne => ⟨rfl, dx, [(f, y)], upd_same, by rw [upd_ne ne, upd_same], ?_, ?_⟩⟩
    · rw [upd_ne ne] at n; exact n
    · rw [upd_ne ne] at n
      rw [heap_end na ne]
      exact q1 dx n
  have lus : us.length = 1 := (Paired.length r1).symm
  have hus : us.length ≤ sizeLine := by rw [lus, sizeLine_eq]; omega
  have hlen : (Value.ref a :: us).length = ps.length := by
    have z := r2.length
    rw [F1.len _ _ _ _ sp] at z
    exact z.symm
  refine wpAny_call (PySem.HandSPX.call_own FB hT hC (PySem.W.looks_findIn I1.kIn iC) (fun self => PySem.W.bind_fn I1.kIn self tI) hus
    (codeAny_mono (F1.run _ X.stack _ _ ⟨Value.ref a :: us, []⟩ (Value.ref a :: us) _ _ (fun _ _ _ => False) (hr.make C us []) (I2.env0.make C us []) (by have z := hb _ (Value.ref a :: us) I2.kIn (by simpa using hlen); simpa using z) r2 sp) fun r s' z => ?_))
  cases r with
  | error er => exact hx pins σ _ _ er s' I2 z
  | ok fl =>
    cases fl with
    | next => exact False.elim z
    | brk => exact False.elim z
    | cont => exact False.elim z
    | ret u =>
      obtain ⟨v, H2, z1, z2, z3, z4, rv, z5, d, fs, z6, z7, z8, z9⟩ := z
      subst z5
      obtain ⟨h2, g2, d2, t2, o2⟩ := s'
      exact ⟨rv, mk_end (raises_own T.exC T.tyC) I1 sz keep z3 z4 z1 z2 z6 z7 z8 z9⟩
end
/-! ### raise C(e) -/
@[simp] def rfO (CX : Addr) (f : Str) (ds : List D) (M1 : Mem) : Out Fl := match ds with
  | [d] => .exc ⟨.ref CX, some [(f, d)]⟩ M1
  | _ => .no
@[simp] def sRaiseF (CX : Addr) (f : Str) (F : FA) : FS := fun ρ M => (F ρ M).bind fun ds M1 => rfO CX f ds M1
theorem SR.more {K : Kf} {μ : List Addr} {Hf Fr H : Hp} {M : Mem} (s : SR K μ Hf Fr H M) {q : Addr} {fs : List (Str × V)} (n : H q = none) : SR K μ Hf Fr (upd H q (.xd fs)) M :=
  s.extN (fun b u hb _ => by rw [upd_ne (fun z => by rw [z, n] at hb; cases hb)]; exact hb) (s.hide (q := q) (o := .xd fs) n).tb
theorem ds_raiseF {X : Cx} {E : XK} {st : Stmt} {CX : Addr} {f : Str} {F : FA} (h : PS X st (fun _ σ H => taF X.K E F σ H fun vs H1 => ∃ y, vs = [y] ∧ ∀ d, H1 d = none → E (.ref CX) (some d) (upd H1 d (.xd [(f, y)])))) : DS X E st (sRaiseF CX f F) := by
  refine ps_imp h fun N σ H ⟨μ, Hf, Fr, ρ, M, r, s, p⟩ => ⟨μ, Hf, Fr, ρ, M, r, s, ?_⟩
  refine (Post.split (f := rfO CX f) p).weak fun ds μ1 Hf1 H1 M1 e1 m1 s1 p1 vs ra => ?_
  match ds, ra, p1 with
  | [d], .cons r1 .nil, p1 =>
    exact ⟨_, rfl, fun q n => p1 (some q) (upd H1 q (.xd [(f, _)])) Hf1 μ1 (Same.refl _) (List.prefix_refl _) (s1.more n) ⟨q, [(f, _)], rfl, upd_same, rfl, r1, trivial⟩⟩
end Den
namespace Den
open PySem PySem.Spec PyProof.Rows L2
/-! ### try with several clauses, some of them with a name -/
/-- caught: sI the state without it, h the heap now -/
structure Caught (X : Cx) (pins : List (Addr × Obj)) (B : Heap) (sI s : Shared) (a : Addr) (cls : Value) (d : Option Addr) (σ : L2.St) (H : Hp) (h : Heap) : Prop where
  inv : Inv X pins σ H sI
  nb : ∀ b o, sI.heap.get? b = some o → b ∉ frs X.stack → B.get? b = some o
  up : sI.heap.UpToSlots h
  fly : HandSPX.FlyingZ B (X.env :: X.outer) a (Zc cls d) h
  na : H a = none
  os : s.os = sI.os
  ag : AllBare s.gens
  nL : a ≠ X.env.locals
  nF : a ∉ X.fs
/-- the ends of a suite whose name goes -/
abbrev offD (i : Nat) (D : Ends) : Ends := { nx := fun σ1 H1 => D.nx (σ1.set i none) H1, rt := D.rt, bk := fun σ1 H1 => D.bk (σ1.set i none) H1, ct := fun σ1 H1 => D.ct (σ1.set i none) H1 }
section
variable {X : Cx} {pins : List (Addr × Obj)} {B : Heap} {sI s : Shared} {a : Addr} {cls : Value} {d : Option Addr} {σ : L2.St} {H : Hp} {h : Heap} {D : Ends} {x n : Str} {c : Value} {i : Nat} {suite : List Stmt} {b₀ : Stmt} {np pos' : Pos} {hds : List ExceptHandler} {ts : Addr → Value → Option Addr → TS} {o : Option Str}
theorem Caught.at (C : Caught X pins B sI s a cls d σ H h) : Inv X pins σ H { s with heap := h } := C.inv.landed C.nb C.fly.1 C.up C.os C.ag
theorem Caught.in (C : Caught X pins B sI s a cls d σ H h) : ∃ oe vs, h.get? a = some oe ∧ Zc cls d oe ∧ oe.data = .fields vs ∧ Inv (X.suite a ((a, oe) :: (X.pn ++ pins))) [] σ H { s with heap := h } := by
  obtain ⟨oe, vs, q1, q2, q3⟩ := C.fly.there
  exact ⟨oe, vs, q1, q2, q3, C.at.suite q1 q3 C.na C.nL C.nF⟩
/-- none of the clauses: on it goes -/
theorem hb_end {W : WX} (hs : X.stack = X.env :: X.outer) (hf : X.env.frame = some X.env.locals) (tk : Takes X W) (C : Caught X pins B sI s a cls d σ H h) (w : W cls d σ H) : wpAny (model X.prog X.w) X.A (handleBy (.ref a) X.env []) (SP X pins D) X.xe { s with heap := h } := by
  refine wpAny_handleBy_nil ?_
  obtain ⟨_, _, _, oe, vs, T, _, _, q1, _, q3, q4, _⟩ := id C.fly
  unfold PySem.passOn
  refine wpAny_bind (wpAny_field q1 q3 q4 ?_)
  rw [if_neg (by simp : ¬ (Value.ref T == Value.none) = true)]
  have out : wpAny (model X.prog X.w) X.A (setFlight (.ref a) X.env.frame) (fun _ s4 => wpAny (model X.prog X.w) X.A (throw (.ref a) : Sem Flow) (SP X pins D) X.xe s4) X.xe { s with heap := h } := by
    rw [hf]
    exact HandSPX.setFlight_upZ C.fly fun h4 q up4 => wpAny_throw (tk _ _ ⟨a, B, sI, pins, σ, H, cls, d, rfl, C.inv, C.nb, C.up.trans up4, .inr (.inr (by rw [hs]; exact q)), C.na, C.os, C.ag, w⟩)
  first | exact wpAny_bind (wpAny_pure (wpAny_bind out)) | exact wpAny_bind out
/-- the class that a clause names, read -/
theorem hb_cls {Q E : Value → Shared → Prop} (hc : Names X x c) (C : Caught X pins B sI s a cls d σ H h) (q : Q c { s with heap := h }) : wpAny (model X.prog X.w) (X.A.mark (some (.ref a))) (eval (.Name x np) X.env) Q E { s with heap := h } := by
  obtain ⟨oe, vs, _, _, _, S⟩ := C.in
  obtain ⟨gl, nd, z⟩ := hc
  rcases z with hm | ⟨hm, hv, hn⟩
  · exact ld_glob (X := X.suite a ((a, oe) :: (X.pn ++ pins))) S gl hm q nd
  · exact ld_blt (X := X.suite a ((a, oe) :: (X.pn ++ pins))) S gl hm hv q hn nd
theorem hb_is {b : Bool} (C : Caught X pins B sI s a cls d σ H h) (hb : PySem.W.exmOne X.K cls c = some b) : PySem.W.Looks (model X.prog X.w) h (excMatches (.ref a) c) b := by
  obtain ⟨oe, vs, q1, q2, _, _⟩ := C.in
  refine PySem.W.exm_one C.at.kIn (fun A1 Q1 E1 s1 k1 r1 => ?_) hb
  exact wpAny_typeOf_ref (k1 _ _ q1) (by rw [q2.1]; exact r1)
/-- a clause of another class -/
theorem hb_no (hc : Names X x c) (C : Caught X pins B sI s a cls d σ H h) (hb : PySem.W.exmOne X.K cls c = some false) (next : wpAny (model X.prog X.w) X.A (handleBy (.ref a) X.env hds) (SP X pins D) X.xe { s with heap := h }) :
    wpAny (model X.prog X.w) X.A (handleBy (.ref a) X.env (.ExceptHandler (some (.Name x np)) o (b₀ :: suite) pos' :: hds)) (SP X pins D) X.xe { s with heap := h } :=
  wpAny_handleBy_cons (codeAny_handlers_test (hb_cls hc C ((hb_is C hb).here next))) (by intro q; cases q)
/-- its own, without a name -/
theorem hb_yes (hc : Names X x c) (C : Caught X pins B sI s a cls d σ H h) (hb : PySem.W.exmOne X.K cls c = some true) (ok : X.Ok)
    (hsu : ∀ (oe : Obj) (pn : List (Addr × Obj)), Zc cls d oe → (∃ vs, oe.data = .fields vs) → PSs (X.suite a ((a, oe) :: pn)) (b₀ :: suite) (ts a cls d)) (w : ts a cls d D σ H) :
    wpAny (model X.prog X.w) X.A (handleBy (.ref a) X.env (.ExceptHandler (some (.Name x np)) none (b₀ :: suite) pos' :: hds)) (SP X pins D) X.xe { s with heap := h } := by
  refine wpAny_handleBy_cons (codeAny_handlers_test (hb_cls hc C ((hb_is C hb).here (codeAny_handlers_suite (HandSPX.lands_againZ C.fly fun h4 fl4 up4 => ?_))))) (by intro q; cases q)
  have C4 : Caught X pins B sI s a cls d σ H h4 := ⟨C.inv, C.nb, C.up.trans up4, fl4, C.na, C.os, C.ag, C.nL, C.nF⟩
  obtain ⟨oe, vs, _, q2, q3, S⟩ := C4.in
  refine wpAny_mono ((hsu oe (X.pn ++ pins) q2 ⟨_, q3⟩).run [] _ _ H _ S w) (fun f s6 z => ?_) (fun _ _ z => False.elim z)
  cases f with
  | ret u => obtain ⟨v6, σ6, H6, S6, r6, q6⟩ := z; exact ⟨v6, σ6, H6, S6.unsuite ok, r6, q6⟩
  | next => obtain ⟨σ6, H6, S6, q6⟩ := z; exact ⟨σ6, H6, S6.unsuite ok, q6⟩
  | brk => obtain ⟨σ6, H6, S6, q6⟩ := z; exact ⟨σ6, H6, S6.unsuite ok, q6⟩
  | cont => obtain ⟨σ6, H6, S6, q6⟩ := z; exact ⟨σ6, H6, S6.unsuite ok, q6⟩
/-- its own, with a name -/
theorem hb_as (hc : Names X x c) (C : Caught X pins B sI s a cls d σ H h) (hb : PySem.W.exmOne X.K cls c = some true) (ok : X.Ok) (hN : X.N.Nodup) (hi : X.N[i]? = some n) (hln : X.env.kindOf n = some .local)
    (hsu : ∀ (oe : Obj) (pn : List (Addr × Obj)), Zc cls d oe → (∃ vs, oe.data = .fields vs) → PSs (X.suite a ((a, oe) :: pn)) (b₀ :: suite) (ts a cls d)) (w : ts a cls d (offD i D) (σ.set i (some (.ref a))) H) :
    wpAny (model X.prog X.w) X.A (handleBy (.ref a) X.env (.ExceptHandler (some (.Name x np)) (some n) (b₀ :: suite) pos' :: hds)) (SP X pins D) X.xe { s with heap := h } := by
  refine wpAny_handleBy_cons (codeAny_handlers_test (hb_cls hc C ((hb_is C hb).here (codeAny_handlers_suite_as (HandSPX.lands_againZ C.fly fun h4 fl4 up4 => ?_))))) (by intro q; cases q)
  have C4 : Caught X pins B sI s a cls d σ H h4 := ⟨C.inv, C.nb, C.up.trans up4, fl4, C.na, C.os, C.ag, C.nL, C.nF⟩
  obtain ⟨oe, vs, _, q2, q3, S⟩ := C4.in
  refine store_ok (X := X.suite a ((a, oe) :: (X.pn ++ pins))) (v := .ref a) S hN hi (.inl hln) rfl (fun s5 S5 => ?_) (.inr hln)
  refine wpAny_mono ((hsu oe (X.pn ++ pins) q2 ⟨_, q3⟩).run [] s5 _ H _ S5 w) (fun f s6 z => ?_) (fun _ _ z => False.elim z)
  cases f with
  | ret u => obtain ⟨v6, σ6, H6, S6, r6, q6⟩ := z; exact gone_ok (S6.unsuite ok) hN hi hln fun s7 J7 => ⟨v6, _, H6, J7, r6, q6⟩
  | next => obtain ⟨σ6, H6, S6, q6⟩ := z; exact gone_ok (S6.unsuite ok) hN hi hln fun s7 J7 => ⟨_, H6, J7, q6⟩
  | brk => obtain ⟨σ6, H6, S6, q6⟩ := z; exact gone_ok (S6.unsuite ok) hN hi hln fun s7 J7 => ⟨_, H6, J7, q6⟩
  | cont => obtain ⟨σ6, H6, S6, q6⟩ := z; exact gone_ok (S6.unsuite ok) hN hi hln fun s7 J7 => ⟨_, H6, J7, q6⟩
end
end Den
namespace Den
open PySem PySem.Spec PyProof.Rows L2
abbrev Cl := Option Nat × Value × (Addr → Value → Option Addr → TS)
/-- what the clauses wish of an exception of the body -/
def wMix (K : Kf) (W : WX) (D : Ends) : List Cl → WX
  | [] => W
  | (o, c, ts) :: r => fun cls d σ H => ∃ b, PySem.W.exmOne K cls c = some b ∧ (b = true → ∀ a, H a = none → match o with
    | none => ts a cls d D σ H
    | some i => ts a cls d (offD i D) (σ.set i (some (.ref a))) H) ∧ (b = false → wMix K W D r cls d σ H)
inductive HMix (X : Cx) : List ExceptHandler → List Cl → Prop
  | nil : HMix X [] []
  | one {x : Str} {c : Value} {ts : Addr → Value → Option Addr → TS} {b₀ : Stmt} {suite : List Stmt} {np p' : Pos} {hds : List ExceptHandler} {l : List Cl} (hc : Names X x c)
      (hsu : ∀ (a : Addr) (oe : Obj) (cls : Value) (d : Option Addr) (pn : List (Addr × Obj)), Zc cls d oe → (∃ vs, oe.data = .fields vs) → PSs (X.suite a ((a, oe) :: pn)) (b₀ :: suite) (ts a cls d)) (r : HMix X hds l) :
      HMix X (.ExceptHandler (some (.Name x np)) none (b₀ :: suite) p' :: hds) ((none, c, ts) :: l)
  | named {x n : Str} {i : Nat} {c : Value} {ts : Addr → Value → Option Addr → TS} {b₀ : Stmt} {suite : List Stmt} {np p' : Pos} {hds : List ExceptHandler} {l : List Cl} (hc : Names X x c) (hi : X.N[i]? = some n) (hln : X.env.kindOf n = some .local)
      (hsu : ∀ (a : Addr) (oe : Obj) (cls : Value) (d : Option Addr) (pn : List (Addr × Obj)), Zc cls d oe → (∃ vs, oe.data = .fields vs) → PSs (X.suite a ((a, oe) :: pn)) (b₀ :: suite) (ts a cls d)) (r : HMix X hds l) :
      HMix X (.ExceptHandler (some (.Name x np)) (some n) (b₀ :: suite) p' :: hds) ((some i, c, ts) :: l)
section
variable {X : Cx} {pins : List (Addr × Obj)} {B : Heap} {sI s : Shared} {a : Addr} {cls : Value} {d : Option Addr} {σ : L2.St} {H : Hp} {h : Heap} {D : Ends} {W : WX}
theorem hb_mix (hs : X.stack = X.env :: X.outer) (hf : X.env.frame = some X.env.locals) (hN : X.N.Nodup) (ok : X.Ok) (tk : Takes X W) (C : Caught X pins B sI s a cls d σ H h) : ∀ {hds : List ExceptHandler} {l : List Cl}, HMix X hds l → wMix X.K W D l cls d σ H →
    wpAny (model X.prog X.w) X.A (handleBy (.ref a) X.env hds) (SP X pins D) X.xe { s with heap := h } := by
  intro hds l hm
  induction hm with
  | nil => exact fun w => hb_end hs hf tk C w
  | one hc hsu r ih =>
    rintro ⟨b, hb, yes, no⟩
    cases b with
    | true => exact hb_yes hc C hb ok (fun oe pn => hsu a oe cls d pn) (yes rfl a C.na)
    | false => exact hb_no hc C hb (ih (no rfl))
  | named hc hi hln hsu r ih =>
    rintro ⟨b, hb, yes, no⟩
    cases b with
    | true => exact hb_as hc C hb ok hN hi hln (fun oe pn => hsu a oe cls d pn) (yes rfl a C.na)
    | false => exact hb_no hc C hb (ih (no rfl))
theorem ps_try_mix {body : List Stmt} {h₀ : ExceptHandler} {hds : List ExceptHandler} {l : List Cl} {pos : Pos} {tb : WX → TS} (hs : X.stack = X.env :: X.outer) (hf : X.env.frame = some X.env.locals) (hN : X.N.Nodup) (tk : Takes X W)
    (hb : ∀ (W1 : WX) (pn : List (Addr × Obj)) (xe : Value → Shared → Prop), Takes (X.tr pn xe) W1 → PassesOwn (model X.prog X.w) X.A X.env xe → PSs (X.tr pn xe) body (tb W1)) (hh : HMix X (h₀ :: hds) l) :
    PS X (.Try body (h₀ :: hds) [] [] pos) (fun D σ H => tb (wMix X.K W D l) D σ H) := by
  refine ⟨fun pins0 s0 σ0 H0 D0 I0 q0 => ?_⟩
  have ok := I0.ok
  have fr : X.A.frames = some (X.env :: X.outer) := ok.frames.trans (by rw [hs])
  let back : Value → Shared → Prop := fun e s₁ => wpAny (model X.prog X.w) X.A (noteFrame e X.env) (fun _ s₂ => wpAny (model X.prog X.w) X.A (setFlight e none) (fun _ s₃ => wpAny (model X.prog X.w) X.A (handleBy e X.env (h₀ :: hds)) (SP X pins0 D0) X.xe s₃) X.xe s₂) X.xe s₁
  have takes : Takes (X.tr (X.pn ++ pins0) back) (wMix X.K W D0 l) := by
    rintro u s1 ⟨a, B, sI, pins1, σ1, H1, cls, d, rfl, J1, nb, up, sky, na, os, ag, w⟩
    have J : Inv X pins0 σ1 H1 sI := J1.ofTry ok
    show wpAny (model X.prog X.w) X.A (noteFrame (.ref a) X.env) _ _ _
    refine Sky.land Zc.steady fr hf (by rw [← hs]; exact sky) fun h3 fly up3 => ?_
    obtain ⟨oe, vs, g1, g2, g3⟩ := fly.there
    have off : ∀ b, b = a → b ∉ frs (X.env :: X.outer) := fun b hb hm => by
      subst hb
      obtain ⟨_, o1, g4, g5⟩ := fly.2.2.1.mem hm
      rw [g1] at g4; cases g4
      exact g5 _ g3
    have nL : a ≠ X.env.locals := fun z => off a rfl (List.mem_filterMap.mpr ⟨X.env, List.mem_cons_self, by rw [hf, z]⟩)
    have nF : a ∉ X.fs := fun hm => by
      obtain ⟨e1, g6, g7⟩ := List.mem_filterMap.mp hm
      exact off a rfl (List.mem_filterMap.mpr ⟨e1, List.mem_cons_of_mem _ g6, g7⟩)
    exact hb_mix hs hf hN ok tk (⟨J, nb, up.trans up3, fly, na, os, ag, nL, nF⟩ : Caught X pins0 B sI s1 a cls d σ1 H1 h3) hh w
  refine wpAny_Try_except (wpAny_mono ((hb (wMix X.K W D0 l) (X.pn ++ pins0) back takes PassesOwn.looking).run [] s0 σ0 H0 D0 (I0.toTry _) q0) (fun fl s1 z => ?_) (fun e s1 z => z))
  cases fl with
  | next => obtain ⟨σ1, H1, J1, q⟩ := z; exact wpAny_execs_nil ⟨σ1, H1, J1.ofTry ok, q⟩
  | brk => obtain ⟨σ1, H1, J1, q⟩ := z; exact ⟨σ1, H1, J1.ofTry ok, q⟩
  | cont => obtain ⟨σ1, H1, J1, q⟩ := z; exact ⟨σ1, H1, J1.ofTry ok, q⟩
  | ret u => obtain ⟨v1, σ1, H1, J1, r1, q⟩ := z; exact ⟨v1, σ1, H1, J1.ofTry ok, r1, q⟩
end
end Den
namespace Den
open PySem PySem.Spec PyProof.Rows L2
/-! ### told(lambda: e), with an exception's field -/
/-- what is said of an exception of e: CN keeps its value in fv, CX nothing -/
def numR (K : Kf) (CN : Addr) (fv num : Str) (cls : Value) (d : Option Addr) (H : Hp) (Q : VK) : Prop := cls = .ref CN ∧ ∃ (dd : Addr) (y : V) (μ : List Addr) (Hf Fr : Hp) (M : Mem) (dy : D), d = some dd ∧ H dd = some (.xd [(fv, y)]) ∧ Rep K μ Hf y dy ∧ SR K μ Hf Fr H M ∧
  Post K EN ((gRepr [dy] M).bind fun s M1 => gAdd (.str num) s M1) μ Hf Fr (kD K Q)
def wayN (K : Kf) (CN CX : Addr) (fv num mtx : Str) (Q : VK) : XK := fun cls d H => ∃ b, PySem.W.exmOne K cls (.ref CN) = some b ∧ (b = true → numR K CN fv num cls d H Q) ∧ (b = false → ∃ b2, PySem.W.exmOne K cls (.ref CX) = some b2 ∧ (b2 = true → Q (.str mtx) H) ∧ (b2 = false → False))
def TNum (K : Kf) (CN CX : Addr) (fv num mtx ftx : Str) : (XK → Hp → VK → Prop) → Hp → VK → Prop := fun tl H Q => tl (wayN K CN CX fv num mtx Q) H fun _ H' => Q (.str ftx) H'
section
variable {X : Cx}
/-- num + repr(er.fv) in the suite -/
theorem pe_numR {a CN : Addr} {oe : Obj} {cls : Value} {d : Option Addr} {pn : List (Addr × Obj)} {er fv num : Str} {i j : Nat} {p4 p5 p6 p7 p8 p9 : Pos} (T : XfC X.K CN) (hno : PySem.W.findIn X.K (.ref CN) fv = some none) (hz : Zc cls d oe) (hf : ∃ vs, oe.data = .fields vs) (gl : Gl X "repr") (hm : X.mg "repr" = none)
    (hgd : X.A.guards = some []) (hun : X.A.units + 64 < cLine) (hv : PE (X.suite a ((a, oe) :: pn)) (.Name er p6) (tVar i)) :
    PE (X.suite a ((a, oe) :: pn)) (.BinOp (.Constant (.str num) j p4) .Add (.Call (.Name "repr" p5) [.Attribute (.Name er p6) fv p7] [] p8) p9) (fun σ H Q => σ[i]? = some (some (.ref a)) ∧ numR X.K CN fv num cls d H Q) := by
  have one := pe_callB (X := X.suite a ((a, oe) :: pn)) (pos := p8) (p := p5) (c_repr (X := X.suite a ((a, oe) :: pn)) (E := EN) hgd hun) gl hm PyProof.Rows.Boot.«repr» (pa_cons (pe_xf (pos := p7) T hno hz hf hv) pa_nil)
  refine pe_imp (pe_op (o_add (E := EN)) (pe_str (x := num) (j := j) (pos := p4)) one) fun σ H Q ⟨h1, h2, dd, y, μ, Hf, Fr, M, dy, h3, h4, h5, h6, h7⟩ => ?_
  refine ⟨.ref a, h1, rfl, h2, dd, _, y, h3, h4, by simp [List.lookup], ?_⟩
  exact ⟨μ, Hf, Fr, M, [dy], .cons h5 .nil, h6, h7.split.weak fun s μ1 Hf1 H1 M1 e1 m1 s1 p1 v rv => ⟨μ1, Hf1, Fr, M1, .str num, s, .str _, rv, s1, p1⟩⟩
theorem told8_way {Ng : List Str} {x a er fv num mtx otx ftx q nN nX nB : Str} {sg : Scope} {g CN CXa CB : Addr} {cdg : Value} {j j2 j3 j4 : Nat} {p1 p2 p3 p4 p5 p6 p7 p8 p9 p10 p11 p12 p13 p14 p15 p16 p17 p18 p19 p20 p21 p22 p23 : Pos}
    (hN : Ng.Nodup) (hi : Ng[1]? = some er) (hln : sg.names.lookup er = some .local) (hgN : sg.names.lookup nN = some .globalImplicit) (hmN : X.mg nN = some (.ref CN)) (hdN : (nN == ("__debug__" : Str)) = false) (hgX : sg.names.lookup nX = some .globalImplicit) (hmX : X.mg nX = some (.ref CXa)) (hdX : (nX == ("__debug__" : Str)) = false)
    (hgB : sg.names.lookup nB = some .globalImplicit) (hmB : X.mg nB = some (.ref CB)) (hdB : (nB == ("__debug__" : Str)) = false) (hgR : sg.names.lookup ("repr" : Str) = some .globalImplicit) (hmR : X.mg "repr" = none) (T : XfC X.K CN) (hno : PySem.W.findIn X.K (.ref CN) fv = some none) (hgd : X.A.guards = some []) (hun : ∀ env, (X.A.deeper env).units + 64 < cLine)
    (h0 : ∀ f : Addr, (L2.start Ng [V.ref f])[0]? = some (some (V.ref f))) (her : (er == ("__debug__" : Str)) = false) (her2 : (er == ("__classdict__" : Str)) = false) :
    LamX.GivesTo X Ng x sg g cdg [.Try [.Expr (.Call (.Name a p1) [] [] p2) p23] [.ExceptHandler (some (.Name nN p3)) (some er) [.Return (some (.BinOp (.Constant (.str num) j p4) .Add (.Call (.Name "repr" p5) [.Attribute (.Name er p6) fv p7] [] p8) p9)) p10] p11,
      .ExceptHandler (some (.Name nX p12)) none [.Return (some (.Constant (.str mtx) j2 p13)) p14] p15, .ExceptHandler (some (.Name nB p16)) none [.Return (some (.Constant (.str otx) j3 p17)) p18] p19] [] [] p20, .Return (some (.Constant (.str ftx) j4 p21)) p22] a q (TNum X.K CN CXa fv num mtx ftx) := by
  intro f c' s H Q tl act hc h
  let Z : Cx := (cxOf C8.CX0 X.prog X.w X.K X.mg X.base Ng x sg g cdg X.A X.stack s H C8.E0).nox
  let body : WX → TS := fun W D σ H2 => (∀ cls d σ' H', wayN X.K CN CXa fv num mtx Q cls d H' → W cls d σ' H') ∧ σ[0]? = some (some (.ref f)) ∧ H2 c' = some (LamX.CodeO c' q) ∧ tl (wayN X.K CN CXa fv num mtx Q) H2 fun _ H' => D.nx σ H'
  let l : List Cl := [(some 1, .ref CN, fun a1 cls d D σ H1 => (∃ σ0 : L2.St, σ = σ0.set 1 (some (.ref a1))) ∧ numR X.K CN fv num cls d H1 D.rt), (none, .ref CXa, fun _ _ _ D _ H1 => D.rt (.str mtx) H1), (none, .ref CB, fun _ _ _ D _ H1 => D.rt (.str otx) H1)]
  have hm : HMix Z [.ExceptHandler (some (.Name nN p3)) (some er) [.Return (some (.BinOp (.Constant (.str num) j p4) .Add (.Call (.Name "repr" p5) [.Attribute (.Name er p6) fv p7] [] p8) p9)) p10] p11,
      .ExceptHandler (some (.Name nX p12)) none [.Return (some (.Constant (.str mtx) j2 p13)) p14] p15, .ExceptHandler (some (.Name nB p16)) none [.Return (some (.Constant (.str otx) j3 p17)) p18] p19] l := by
    refine .named ⟨hgN, hdN, .inl hmN⟩ hi hln (fun a1 oe cls d pn hz hf => ⟨fun pins s1 σ H1 D I w => ?_⟩) (.one ⟨hgX, hdX, .inl hmX⟩ (fun a1 oe cls d pn hz hf => pss_one (ps_ret pe_str)) (.one ⟨hgB, hdB, .inl hmB⟩ (fun a1 oe cls d pn hz hf => pss_one (ps_ret pe_str)) .nil))
    obtain ⟨⟨σ0, rfl⟩, w2⟩ := w
    have hlen := I.len
    rw [List.length_set] at hlen
    have h1 : 1 < Ng.length := (List.getElem?_eq_some_iff.mp hi).1
    exact (pss_one (ps_ret (pe_numR (X := Z) (i := 1) T hno hz hf hgR hmR hgd (hun _) (pe_var (i := 1) hi (.inl hln) her her2)))).run pins s1 _ H1 D I ⟨List.getElem?_set_self (by rw [hlen]; exact h1), w2⟩
  refine ⟨_, pss_cons (ps_try_mix (X := Z) (tb := body) rfl rfl hN takes0 (fun W pn xe tk _ => ⟨fun pins s2 σ H2 D I h2 => ?_⟩) hm) (pss_one (ps_ret pe_str)), ?_⟩
  · obtain ⟨hW, h3, h4, h5⟩ := h2
    exact (pss_one (ps_expr (pos := p23) (act W pn xe (wayN X.K CN CXa fv num mtx Q) p1 p2 tk hW))).run pins s2 σ H2 D I ⟨h3, h4, h5⟩
  · refine ⟨fun cls d σ' H' ⟨b, y1, y2, y3⟩ => ⟨b, y1, fun hb a1 _ => ⟨⟨σ', rfl⟩, y2 hb⟩, fun hb => ?_⟩, h0 f, hc, h⟩
    obtain ⟨b2, z1, z2, z3⟩ := y3 hb
    exact ⟨b2, z1, fun hb2 _ _ => z2 hb2, fun hb2 => (z3 hb2).elim⟩
end
end Den
namespace Den
open PySem PySem.Spec PyProof.Rows L2
/-- 'number ' + repr(value) -/
@[simp] def sayN (num : Str) (d : D) (M : Mem) : Out D := match gRepr [d] M with
  | .ok (.str z) M1 => if num.length + z.length ≤ lineD then .ok (.str (num ++ z)) M1 else .no
  | _ => .no
@[simp] def told8O (CN CX : Addr) (fv num mtx ftx : Str) (o : Out D) : Out D := match o with
  | .ok _ M => .ok (.str ftx) M
  | .exc x M => match x.cls with
    | .ref a => if a = CN then match x.fs with
        | some [(f, d)] => if f = fv then sayN num d M else .no
        | _ => .no
      else if a = CX then .ok (.str mtx) M else .no
    | _ => .no
  | .no => .no
@[simp] def eTold8 (CN CX : Addr) (fv num mtx ftx : Str) (F : FE) : FE := fun ρ M => told8O CN CX fv num mtx ftx (F ρ M)
structure Exm8 (K : Kf) (CN CX : Addr) : Prop where
  nn : PySem.W.exmOne K (.ref CN) (.ref CN) = some true
  xn : PySem.W.exmOne K (.ref CX) (.ref CN) = some false
  xx : PySem.W.exmOne K (.ref CX) (.ref CX) = some true
section
variable {X : Cx} {E : XK} {F : FE} {pos : Pos} {k : Nat}
theorem de_told8 {x a fv num mtx ftx : Str} {st : Stmt} {g c P CN CXa : Addr} {fd : FuncData} {Ng : List Str} {params : Arguments} {body : Expr} {scope : Scope} {p lpos : Pos} (Fn : Fun X.K x x st g fd) (hg : Gl X x) (hm : X.mg x = some (.ref g)) (hk : PySem.W.keepIn X.K (.ref g) = true) (hb : Binds X.K fd [a] [])
    (Sg : FnScope Ng [a] (defScope st)) (hNg : Ng[0]? = some a) (hva : Vis (defScope st) a) (hG : ∀ cdv, LamX.GivesTo X Ng x (defScope st) g cdv (defBody st) a (X.env.qual ++ "<lambda>") (TNum X.K CN CXa fv num mtx ftx)) {xq : Str} (hxq : X.env.qual = xq ++ ".<locals>.") (L : LamF X.K xq c P) (TB : LamB X.K X.mg X.base) (hcode : X.env.code = .ref c)
    (hr : Room (k + 2) X.A) (LS : LamX.LamS X.env.scope scope) (hex : Exm8 X.K CN CXa) (hdef : defaultsOf params X.env = ([], []))
    (hbind : ∀ (q : Str) (cl : List (Str × Addr)) (pm cv ctv : Value), bindArgs (PySem.W.kla_fn "<lambda>" q params body scope cl pm cv ctv) ⟨[], []⟩ = pure [])
    (hbody : ∀ (A : Around) (outer : List Env) (s : Shared) (H : Hp) (E' : XK) (f c' : Addr), Room k (A.deeper (LamX.lamEnv X scope s.heap.objs.size f c')) → Passes (L2.CX X.prog X.w) (LamX.lamCx X A outer s H E' scope f c') E' → DE (LamX.lamCx X A outer s H E' scope f c') E' body F)
    (hdb : (x == ("__debug__" : Str)) = false := by decide) (hd : (a == ("__debug__" : Str)) = false := by decide) (hcd : (a == ("__classdict__" : Str)) = false := by decide) :
    DE X E (.Call (.Name x p) [.Lambda params body scope lpos] [] pos) (eTold8 CN CXa fv num mtx ftx F) := by
  obtain ⟨oc, od, kV, doc, pm, an, cdv, ct, osl, rfl, lk, hcd'⟩ := Fn.ex
  refine pe_imp (LamX.pe_lamcall (T := lamT X.K) (t := fun E' => teF X.K E' F) hg hm hk lk hcd' hb Sg hNg hva (hG cdv) (L.tb TB) hcode (by rw [hxq]; exact L.inT) (by rw [hxq]; exact L.sole) hr LS hdef hbind (fun A outer s H E' f c' hr' => hbody A outer s H E' f c' hr' (passes_call (takes_of rfl rfl rfl rfl) fun cls d σ H h => h)) hdb hd hcd) fun σ H Q ⟨μ, Hf, Fr, ρ, M, r, s, p⟩ => ?_
  refine ⟨s.tb, fun H1 ex t1 => ?_⟩
  have s1 := s.extN ex t1
  refine ⟨μ, Hf, Fr, ρ, M, r, s1, ?_⟩
  unfold eTold8 at p
  cases hF : F ρ M with
  | ok d M1 =>
    rw [hF] at p
    exact fun H' Hf' μ' e m s' v rv => p H' Hf' μ' e m s' _ (.str ftx)
  | exc xd M1 =>
    rw [hF] at p
    unfold told8O at p
    dsimp only at p
    intro dx H' Hf' μ' e m s' xr
    split at p
    · rename_i a' ha
      rw [ha]
      split at p
      · rename_i hC
        subst hC
        split at p
        · rename_i f1 d1 hfs
          split at p
          · rename_i hf1
            subst hf1
            unfold XRep at xr
            rw [hfs] at xr
            obtain ⟨dd, fvs, h1, h2, h3⟩ := xr
            match fvs, h3 with
            | [(f2, y)], h3 =>
              obtain ⟨rfl, ry, _⟩ := h3
              refine ⟨true, hex.nn, fun _ => ⟨rfl, dd, y, μ', Hf', Fr, M1, d1, h1, h2, ry, s', ?_⟩, fun z => by cases z⟩
              unfold sayN at p
              split at p
              · rename_i z M2 hz
                split at p
                · rename_i hl
                  rw [hz]
                  have q : gAdd (.str num) (.str z) M2 = .ok (.str (num ++ z)) M2 := if_pos hl
                  rw [Out.bind_ok, q]
                  exact fun H2 Hf2 μ2 e2 m2 s2 => p H2 Hf2 μ2 (e.trans e2) (m.trans m2) s2
                · exact p.elim
              · exact p.elim
          · exact p.elim
        · exact p.elim
      · split at p
        · rename_i hn hC
          subst hC
          exact ⟨false, hex.xn, (fun z => by cases z), fun _ => ⟨true, hex.xx, fun _ => p H' Hf' μ' e m s' _ (.str mtx), fun z => by cases z⟩⟩
        · exact p.elim
    · exact p.elim
  | no => rw [hF] at p; exact p.elim
end
structure ToldC8 (P : Program) (w : World) (K : Kf) (mg : Str → Option Value) (base : Heap) (x a : Str) (CN CXa : Addr) (fv num mtx ftx : Str) : Prop where
  ex : ∃ (st : Stmt) (g : Addr) (fd : FuncData) (Ng : List Str), Fun K x x st g fd ∧ mg x = some (.ref g) ∧ PySem.W.keepIn K (.ref g) = true ∧ Binds K fd [a] [] ∧ FnScope Ng [a] (defScope st) ∧ Ng[0]? = some a ∧ Vis (defScope st) a ∧
    ∀ (X : Cx) (cdv : Value) (q : Str), X.prog = P → X.w = w → X.K = K → X.mg = mg → X.base = base → X.A.guards = some [] → (∀ env, Room 2 (X.A.deeper env)) → LamX.GivesTo X Ng x (defScope st) g cdv (defBody st) a q (TNum X.K CN CXa fv num mtx ftx)
  hex : Exm8 K CN CXa
theorem de_toldC8 {X : Cx} {E : XK} {F : FE} {pos : Pos} {k : Nat} {x a fv num mtx ftx : Str} {c P CN CXa : Addr} {params : Arguments} {body : Expr} {scope : Scope} {p lpos : Pos} (TC : ToldC8 X.prog X.w X.K X.mg X.base x a CN CXa fv num mtx ftx) {q : Str} {sc : Scope} (hg : Gl X x) (hq : X.env.qual = q ++ ".<locals>.") (hsc : X.env.scope = sc) (L : LamF X.K q c P) (TB : LamB X.K X.mg X.base) (hcode : X.env.code = .ref c)
    (hr : Room (k + 2) X.A) (hgd : X.A.guards = some []) (hk : 1 ≤ k) (LS : LamX.LamS sc scope) (hdef : defaultsOf params X.env = ([], []))
    (hbind : ∀ (q : Str) (cl : List (Str × Addr)) (pm cv ctv : Value), bindArgs (PySem.W.kla_fn "<lambda>" q params body scope cl pm cv ctv) ⟨[], []⟩ = pure [])
    (hbody : ∀ (A : Around) (outer : List Env) (s : Shared) (H : Hp) (E' : XK) (f c' : Addr), Room k (A.deeper (LamX.lamEnv X scope s.heap.objs.size f c')) → Passes (L2.CX X.prog X.w) (LamX.lamCx X A outer s H E' scope f c') E' → DE (LamX.lamCx X A outer s H E' scope f c') E' body F)
    (hdb : (x == ("__debug__" : Str)) = false := by decide) (hd : (a == ("__debug__" : Str)) = false := by decide) (hcd : (a == ("__classdict__" : Str)) = false := by decide) :
    DE X E (.Call (.Name x p) [.Lambda params body scope lpos] [] pos) (eTold8 CN CXa fv num mtx ftx F) := by
  subst hsc
  obtain ⟨st, g, fd, Ng, Fn, hm, hkp, hb, Sg, hN, hv, hG⟩ := TC.ex
  exact de_told8 Fn hg hm hkp hb Sg hN hv (fun cdv => hG X cdv _ rfl rfl rfl rfl rfl hgd fun env => (hr.mono (by omega : 3 ≤ k + 2)).deeper env) hq L TB hcode hr LS TC.hex hdef hbind hbody hdb hd hcd
end Den
namespace Den
open PySem PySem.Spec PyProof.Rows L2
/-! ### def f(a, *v, k=d): called with and without the keyword -/
theorem look_bind {M : Model} {A : Around} {E : Value → Shared → Prop} {s : Shared} {K : Kf} {Q : List (Str × Value) → Shared → Prop} {D : Addr} {kn : Str} {kv : Value} {t t' : Sem (List (Str × Value))} (inK : K.In s.heap) (hd : PySem.W.nsIn K D kn = some (some kv))
    (e : ∃ (β γ : Type) (k1 : Option Value → Sem β) (k2 : β → Sem γ) (k3 : γ → Sem (List (Str × Value))) (a : β), t = ((nsGet D kn >>= k1) >>= k2) >>= k3 ∧ k1 (some kv) = pure a ∧ (k2 a >>= k3) = t') (h : wpAny M A t' Q E s) : wpAny M A t Q E s := by
  obtain ⟨β, γ, k1, k2, k3, a, e1, e2, e3⟩ := e
  have l1 : PySem.W.Looks M s.heap (nsGet D kn >>= k1) a := (PySem.W.looks_nsIn inK hd).andThen (PySem.W.Looks.of_pure e2)
  rw [e1, bind_assoc]
  refine wpAny_bind (l1.here ?_)
  rw [e3]; exact h
def FnRK (P : Program) (w : World) (K : Kf) (mg : Str → Option Value) (base : Heap) (CX : CXT) (k : Nat) (f : Addr) (kn : Str) (sp : V → Sp) : Prop :=
  ∀ (A : Around) (outer : List Env) (s : Shared) (H : Hp) (us : List Value) (vs : List V) (zv : Value) (z : V) (Q : VK) (E : XK), Room k A → Env0 P w K mg base A outer s H → Vals vs us → RelV z zv → sp z vs H Q E → codeAny (model P w) A (.call (.ref f) ⟨us, [(kn, zv)]⟩) (CR CX outer P w H s Q E) s
/-- what it does with a and what is left over, the keyword's value at hand -/
def spK (K : Kf) (g : GA) (z : V) : Sp := fun vs H Q E => ∃ μ Hf Fr M c ds dz, RepAll K μ Hf vs (c :: ds) ∧ Rep K μ Hf z dz ∧ ds.length ≤ lineD ∧ SR K μ Hf Fr H M ∧ Post K E (g [c, dz, .tup ds] M) μ Hf Fr (kD K Q)
section
variable {P : Program} {w : World} {K : Kf} {mg : Str → Option Value} {base : Heap} {k : Nat} {f : Addr} {name qual pv kn p1 : Str} {st : Stmt} {N : List Str} {body : FS}
  {kV doc pm cdv ct oc : Value} {an od : Option Addr} {osl : Array (Option Value)}
theorem run_star1k (lk : K.lookup f = some ⟨oc, od, .func (PySem.W.fnOf name qual (defArgs st) (defBody st) (defScope st) .none kV doc pm an cdv ct), osl⟩) (hcd : PySem.W.codeIn K cdv qual = true) (S : FnScope N [p1, kn, pv] (defScope st))
    (hb : ∀ (cdv : Value) (A : Around) (outer : List Env) (s : Shared) (H : Hp) (E : XK), Room k (A.deeper (envOfC qual (defScope st) s.heap.objs.size f cdv)) →
      Passes (L2.CX P w) (cxOf (L2.CX P w) P w K mg base N qual (defScope st) f cdv A outer s H E) E → DSs (cxOf (L2.CX P w) P w K mg base N qual (defScope st) f cdv A outer s H E) E (defBody st) body)
    {A : Around} {outer : List Env} {s : Shared} {H : Hp} {u zv : Value} {rest : List Value} {vs : List V} {z : V} {Q : VK} {E : XK} {args : Args} (hr : Room (k + 1) A) (e0 : Env0 P w K mg base A outer s H) (r : Vals vs (u :: rest)) (rz : RelV z zv)
    (hbd : ∀ (A' : Around) (Ex : Value → Shared → Prop) (Q' : List (Str × Value) → Shared → Prop), wpAny (model P w) A' (newTuple rest >>= fun t => pure [(p1, u), (kn, zv), (pv, t)]) Q' Ex s → wpAny (model P w) A' (bindArgs (PySem.W.fnOf name qual (defArgs st) (defBody st) (defScope st) .none kV doc pm an cdv ct) args) Q' Ex s)
    (h : spK K (defX N.length body) z vs H Q E) : codeAny (model P w) A (.call (.ref f) args) (CR (L2.CX P w) outer P w H s Q E) s := by
  obtain ⟨μ, Hf, Fr, M, c, ds, dz, ra, rd, hl, sr, p⟩ := h
  cases r with
  | @cons vc _ vr _ rc rr =>
  cases ra with
  | cons r1 r2 =>
  have nq : H s.heap.objs.size = none := e0.hok.fresh (Nat.le_refl _)
  have lv : vr.length ≤ sizeLine := line_le (by rw [r2.length]; exact hl)
  have lr : rest.length ≤ sizeLine := by rw [← rr.length]; exact lv
  refine StX.run_bnd lk hcd S hr e0 (G := fun xs H2 => ∃ q, H q = none ∧ xs = [vc, z, V.ref q] ∧ H2 = upd H q (.tup vr)) (fun A' Ex Q' hQ => ?_) fun s2 H2 xs ⟨q, hq, ex, eH⟩ hr' => ?_
  · refine hbd A' Ex Q' (wpAny_bind (wpAny_newTuple (wpAny_pure ?_) lr))
    have ok1 : ObjOk P w (upd H s.heap.objs.size (.tup vr)) (s.heap.push ({ cls := .type "tuple", data := .seq rest.toArray } : Obj)) s.heap.objs.size (.tup vr) := ⟨lv, rest, rr, ⟨_, Heap.get?_push_size _ rfl, rfl, _, rfl⟩⟩
    have un1 := StX.un_laid (fs := frs outer) (s := s) (o := ({ cls := .type "tuple", data := .seq rest.toArray } : Obj)) (u := .tup vr) nq
    exact hQ _ _ [vc, z, V.ref s.heap.objs.size] [u, zv, Value.ref s.heap.objs.size] (StX.env0_laid e0 ok1) un1 rfl (fun e s' => StX.cxUp outer s H _ _ E e s' un1 (fun b o y => Heap.get?_push_of_some _ y) rfl) (.cons rc (.cons rz (.cons rfl .nil))) rfl ⟨_, nq, rfl, rfl⟩
  · subst ex eH
    obtain ⟨s3, e3⟩ := sr.froz (o := .tup vr) hq
    refine ⟨_, hb cdv A outer s2 _ E hr' (passes_call (takes_of rfl rfl rfl rfl) fun cls d σ H h => h), ?_⟩
    refine ⟨μ, _, Fr, _, M, start_rep (.cons (Rep.mono e3 (List.prefix_refl _) _ _ r1) (.cons (Rep.mono e3 (List.prefix_refl _) _ _ rd) (.cons (rep_tup r2 e3) .nil))), s3, (p.later e3 (List.prefix_refl _)).split.weak fun fl μ1 Hf1 H1 M1 e1 m1 s1 p1 => ?_⟩
    cases fl with
    | rt d => exact fun v r1 => p1.now s1 v r1
    | nx ρ => exact fun _ _ => p1.now s1 _ .non
    | bk ρ => exact p1.elim
    | ct ρ => exact p1.elim
end
end Den
namespace Den
open PySem PySem.Spec PyProof.Rows L2
section
variable {P : Program} {w : World} {K : Kf} {mg : Str → Option Value} {base : Heap} {k : Nat} {f D : Addr} {name qual pv kn p1 : Str} {st : Stmt} {N : List Str} {body : FS} {kv : Value} {dv : V}
  {doc pm cdv ct oc : Value} {an od : Option Addr} {osl : Array (Option Value)}
theorem fnr_star1k (lk : K.lookup f = some ⟨oc, od, .func (PySem.W.fnOf name qual (defArgs st) (defBody st) (defScope st) .none (.ref D) doc pm an cdv ct), osl⟩) (hcd : PySem.W.codeIn K cdv qual = true) (S : FnScope N [p1, kn, pv] (defScope st))
    (hb : ∀ (cdv : Value) (A : Around) (outer : List Env) (s : Shared) (H : Hp) (E : XK), Room k (A.deeper (envOfC qual (defScope st) s.heap.objs.size f cdv)) →
      Passes (L2.CX P w) (cxOf (L2.CX P w) P w K mg base N qual (defScope st) f cdv A outer s H E) E → DSs (cxOf (L2.CX P w) P w K mg base N qual (defScope st) f cdv A outer s H E) E (defBody st) body)
    (hd : PySem.W.nsIn K D kn = some (some kv)) (rk : RelV dv kv)
    (hbd : ∀ (u : Value) (rest : List Value), ∃ (β γ : Type) (k1 : Option Value → Sem β) (k2 : β → Sem γ) (k3 : γ → Sem (List (Str × Value))) (a : β), bindArgs (PySem.W.fnOf name qual (defArgs st) (defBody st) (defScope st) .none (.ref D) doc pm an cdv ct) ⟨u :: rest, []⟩ = ((nsGet D kn >>= k1) >>= k2) >>= k3 ∧ k1 (some kv) = pure a ∧ (k2 a >>= k3) = (newTuple rest >>= fun t => pure [(p1, u), (kn, kv), (pv, t)])) :
    FnR P w K mg base (L2.CX P w) (k + 1) f (spK K (defX N.length body) dv) := by
  intro A outer s H us vs Q E hr e0 r h
  have h' := h
  obtain ⟨μ, Hf, Fr, M, c, ds, dz, ra, _⟩ := h'
  match us, r with
  | u :: rest, r => exact run_star1k lk hcd S hb hr e0 r rk (fun A' Ex Q' z => look_bind (e0.mod.kin.keeps fun b o e => (e0.bs b o e).1) hd (hbd u rest) z) h
  | [], r => cases r; cases ra
theorem fnrk_star1k {kV : Value} (lk : K.lookup f = some ⟨oc, od, .func (PySem.W.fnOf name qual (defArgs st) (defBody st) (defScope st) .none kV doc pm an cdv ct), osl⟩) (hcd : PySem.W.codeIn K cdv qual = true) (S : FnScope N [p1, kn, pv] (defScope st))
    (hb : ∀ (cdv : Value) (A : Around) (outer : List Env) (s : Shared) (H : Hp) (E : XK), Room k (A.deeper (envOfC qual (defScope st) s.heap.objs.size f cdv)) →
      Passes (L2.CX P w) (cxOf (L2.CX P w) P w K mg base N qual (defScope st) f cdv A outer s H E) E → DSs (cxOf (L2.CX P w) P w K mg base N qual (defScope st) f cdv A outer s H E) E (defBody st) body)
    (hbd : ∀ (u zv : Value) (rest : List Value), bindArgs (PySem.W.fnOf name qual (defArgs st) (defBody st) (defScope st) .none kV doc pm an cdv ct) ⟨u :: rest, [(kn, zv)]⟩ = (newTuple rest >>= fun t => pure [(p1, u), (kn, zv), (pv, t)])) :
    FnRK P w K mg base (L2.CX P w) (k + 1) f kn (spK K (defX N.length body)) := by
  intro A outer s H us vs zv z Q E hr e0 r rz h
  have h' := h
  obtain ⟨μ, Hf, Fr, M, c, ds, dz, ra, _⟩ := h'
  match us, r with
  | u :: rest, r => exact run_star1k lk hcd S hb hr e0 r rz (fun A' Ex Q' y => by rw [hbd u zv rest]; exact y) h
  | [], r => cases r; cases ra
end
section
variable {X : Cx} {CX : CXT} {k : Nat} {C pa g : Addr} {mc : Value} {sp : V → Sp} {E : XK} {o e : Expr} {es : List Expr} {kws : List Keyword} {m kn : Str} {pos apos : Pos} {ta : TE} {t tk : TA} {pl : Sem Bool}
/-- C.m(e, .., k = v), m a class method -/
theorem pe_cmethK (he : PE X o ta) (r : ClX.CRead X.K C mc) (c : ClX.CMet X.K C mc m pa g) (F : FnRK X.prog X.w X.K X.mg X.base CX k g kn sp) (hr : Room k X.A) (hx : Passes CX X E) (ha : PA X (e :: es) t) (hkw : PK X kws tk)
    (hall : (backToKw pos (keywordEach kws X.env)).all (·.1.isSome) = true := by rfl) (hks : (backToKw pos (keywordEach kws X.env)).filterMap (·.1) = [kn] := by rfl)
    (hst : starEach (e :: es) X.env = (false, eval e X.env) :: starEach es X.env := by rfl) (hpl : ((backTo pos (starEach (e :: es) X.env)).any (·.1) || (backToKw pos (keywordEach kws X.env)).any (·.1.isNone)) = false := by rfl)
    (ht : eval (.Call (.Attribute o m apos) (e :: es) kws pos) X.env = (do
      let ov ← eval o X.env
      standAt apos.atName
      let (fv, fst) ← holding [ov] (getMethod ov m pl)
      callWith pos fv fst (backTo pos (starEach (e :: es) X.env)) (backToKw pos (keywordEach kws X.env))) := by rfl) :
    PE X (.Call (.Attribute o m apos) (e :: es) kws pos) (fun σ H Q => ta σ H fun x H1 => x = .ref C ∧ t σ H1 fun vs H2 => tk σ H2 fun zs H3 => ∃ z, zs = [z] ∧ sp z (.ref C :: vs) H3 Q E) := by
  refine ⟨fun pins s σ H Q I0 h0 => ?_⟩
  refine PySem.W.methodCall_KW (pl := pl) (thn (he.run pins s σ H _ I0 h0) fun u s1 ⟨x, H1, I1, rx, ex, q⟩ => ?_) ht
  subst ex
  obtain rfl : u = Value.ref C := rx
  refine ClX.getmethcm_ok I1 r c fun s2 I2 => ?_
  refine PySem.W.callWith_of (P := PySem.W.MethP X.K s1.heap.objs.size g (.ref C)) hpl (PySem.W.keeps_M c.fi) (evalArgs_kw2 hall (thn (ha.run pos _ s2 σ H1 _ I2 q) fun us s3 ⟨vs, H2, I3, rv, q2⟩ => thn (hkw.run pos _ s3 σ H2 _ I3 q2) fun ws s4 ⟨zs, H3, I4, rz, z, ez, q3⟩ => ⟨⟨ClX.pin_at I4, I4.kIn⟩, ?_⟩) hst)
  subst ez
  cases rz with
  | @cons _ zv _ _ r1 r2 =>
  cases r2
  rw [hks]
  show wpAny _ _ (call (.ref s1.heap.objs.size) us [(kn, zv)]) _ _ _
  have z0 : wpAny (model X.prog X.w) X.A (call (.ref s1.heap.objs.size) us [(kn, zv)]) (EP X ((s1.heap.objs.size, PySem.W.methodObj (.ref g) (.ref C)) :: pins) σ Q) X.xe s4 := by
    refine wpAny_call (PySem.W.method_call (ClX.pin_at I4) (codeAny_mono (F X.A X.stack s4 H3 (.ref C :: us) (.ref C :: vs) zv z Q E hr I4.env0 (.cons rfl rv) r1 q3) fun rr s5 hq => ?_))
    cases rr with
    | error er => exact hx _ σ H3 s4 er s5 I4 hq
    | ok fl =>
      cases fl with
      | ret u => exact I4.after hq
      | next => exact False.elim hq
      | brk => exact False.elim hq
      | cont => exact False.elim hq
  exact thn z0 fun _ _ y => ClX.unpinE y
end
/-! ### C.m(e, ..) and C.m(e, .., k = v) -/
@[simp] def eFree (C : Addr) (g : GA) (dk : D) (fg : FA) : FE := fun ρ M => (fg ρ M).bind fun ds M1 => if ds.length ≤ lineD then g [.fn C, dk, .tup ds] M1 else .no
@[simp] def eFreeK (C : Addr) (g : GA) (fg : FA) (fk : FE) : FE := fun ρ M => (fg ρ M).bind fun ds M1 => (fk ρ M1).bind fun d M2 => if ds.length ≤ lineD then g [.fn C, d, .tup ds] M2 else .no
section
variable {X : Cx} {CX : CXT} {k : Nat} {C pa g0 : Addr} {mc : Value} {E : XK} {c : Str} {e ek : Expr} {es : List Expr} {m kn : Str} {pos apos p0 kp : Pos} {fg : FA} {fk : FE} {g : GA} {pl : Sem Bool} {dv : V} {dk : D}
theorem de_free (hg : Gl X c) (hm : X.mg c = some (.ref C)) (r : ClX.CRead X.K C mc) (cm : ClX.CMet X.K C mc m pa g0) (F : FnR X.prog X.w X.K X.mg X.base CX k g0 (spK X.K g dv)) (rd : ∀ μ Hf, Rep X.K μ Hf dv dk) (hr : Room k X.A) (hx : Passes CX X E) (ha : DA X E (e :: es) fg)
    (hcd : (c == ("__debug__" : Str)) = false := by decide) (hst : starEach (e :: es) X.env = (false, eval e X.env) :: starEach es X.env := by rfl) (hpl : (backTo pos (starEach es X.env)).any (·.1) = false := by rfl)
    (ht : eval (.Call (.Attribute (.Name c p0) m apos) (e :: es) [] pos) X.env = (do
      let ov ← eval (.Name c p0) X.env
      standAt apos.atName
      let (fv, fst) ← holding [ov] (getMethod ov m pl)
      callWith pos fv fst (backTo pos (starEach (e :: es) X.env)) (backToKw pos (keywordEach [] X.env))) := by rfl) :
    DE X E (.Call (.Attribute (.Name c p0) m apos) (e :: es) [] pos) (eFree C g dk fg) := by
  refine pe_imp (ClX.pe_cmeth (E := E) (pe_glob (pos := p0) (v := .ref C) hg hm rfl hcd) r cm F hr hx ha hst hpl ht) fun σ H Q ⟨μ, Hf, Fr, ρ, M, r0, s, p⟩ => ?_
  refine ⟨rfl, μ, Hf, Fr, ρ, M, r0, s, p.split.weak fun ds μ1 Hf1 H1 M1 e1 m1 s1 p1 vs ra => ?_⟩
  split at p1
  · rename_i hl
    exact ⟨μ1, Hf1, Fr, M1, .fn C, ds, dk, .cons (.fn _) ra, rd _ _, hl, s1, p1⟩
  · exact p1.elim
theorem de_freeK (hg : Gl X c) (hm : X.mg c = some (.ref C)) (r : ClX.CRead X.K C mc) (cm : ClX.CMet X.K C mc m pa g0) (F : FnRK X.prog X.w X.K X.mg X.base CX k g0 kn (spK X.K g)) (hr : Room k X.A) (hx : Passes CX X E) (ha : DA X E (e :: es) fg) (hk : DE X E ek fk)
    (hcd : (c == ("__debug__" : Str)) = false := by decide) (hall : (backToKw pos (keywordEach [⟨some kn, ek, kp⟩] X.env)).all (·.1.isSome) = true := by rfl) (hks : (backToKw pos (keywordEach [⟨some kn, ek, kp⟩] X.env)).filterMap (·.1) = [kn] := by rfl)
    (hst : starEach (e :: es) X.env = (false, eval e X.env) :: starEach es X.env := by rfl) (hpl : ((backTo pos (starEach (e :: es) X.env)).any (·.1) || (backToKw pos (keywordEach [⟨some kn, ek, kp⟩] X.env)).any (·.1.isNone)) = false := by rfl)
    (ht : eval (.Call (.Attribute (.Name c p0) m apos) (e :: es) [⟨some kn, ek, kp⟩] pos) X.env = (do
      let ov ← eval (.Name c p0) X.env
      standAt apos.atName
      let (fv, fst) ← holding [ov] (getMethod ov m pl)
      callWith pos fv fst (backTo pos (starEach (e :: es) X.env)) (backToKw pos (keywordEach [⟨some kn, ek, kp⟩] X.env))) := by rfl) :
    DE X E (.Call (.Attribute (.Name c p0) m apos) (e :: es) [⟨some kn, ek, kp⟩] pos) (eFreeK C g fg fk) := by
  refine pe_imp (pe_cmethK (E := E) (pe_glob (pos := p0) (v := .ref C) hg hm rfl hcd) r cm F hr hx ha (pk_cons hk pk_nil) hall hks hst hpl ht) fun σ H Q ⟨μ, Hf, Fr, ρ, M, r0, s, p⟩ => ?_
  refine ⟨rfl, μ, Hf, Fr, ρ, M, r0, s, p.split.weak fun ds μ1 Hf1 H1 M1 e1 m1 s1 p1 vs ra => ?_⟩
  refine ⟨μ1, Hf1, Fr, ρ, M1, r0.mono e1 m1, s1, p1.split.weak fun d μ2 Hf2 H2 M2 e2 m2 s2 p2 v rv => ⟨v, rfl, ?_⟩⟩
  split at p2
  · rename_i hl
    exact ⟨μ2, Hf2, Fr, M2, .fn C, ds, d, .cons (.fn _) (ra.mono e2 m2), rv, hl, s2, p2⟩
  · exact p2.elim
end
end Den
namespace Den
open PySem PySem.Spec PyProof.Rows L2
section
variable {X : Cx} {CX : CXT} {k : Nat} {C fI : Addr} {sp : Sp} {E : XK} {c : Str} {e : Expr} {es : List Expr} {p pos : Pos} {tc : TE} {t : TA} {fo : FE} {fg : FA} {CXa : Addr} {fl : Str} {g : GA}
/-- cls(e, ..), the class in a name -/
theorem pe_clsMk (Mo : Mk X.K C fI) (G : FnR X.prog X.w X.K X.mg X.base CX k fI sp) (hr : Room (k + 1) X.A) (hx : Passes CX X E) (hc : PE X (.Name c p) tc) (ha : PA X (e :: es) t)
    (hst : starEach (e :: es) X.env = (false, eval e X.env) :: starEach es X.env := by rfl) (hpl : (backTo pos (starEach es X.env)).any (·.1) = false := by rfl) :
    PE X (.Call (.Name c p) (e :: es) [] pos) (fun σ H Q => tc σ H fun y H1 => y = .ref C ∧ t σ H1 fun vs H2 => ∀ x dx, H2 x = none → H2 dx = none → dx ≠ x → sp (.ref x :: vs) (upd (upd H2 dx (.own x)) x (.ins C dx [])) (fun v H3 => v = .non ∧ Q (.ref x) H3) E) := by
  constructor
  intro pins s σ H Q I0 h0
  refine wpAny_Call_Name_kw (thn (hc.run pins s σ H _ I0 h0) ?_)
  rintro u s1 ⟨y, H1, I1, ry, rfl, q⟩
  obtain rfl : u = .ref C := ry
  refine PySem.W.callWith_K (h₀ := X.base) I1.ok.mod.kin Mo.kp (thn (ha.run pos pins _ σ H1 _ I1 q) ?_) hst hpl
  rintro us s2 ⟨vs, H2, I2, rv, q2⟩
  exact ⟨I2.kIn, StX.run_makeR Mo G hr hx I2 rv q2⟩
@[simp] def eClsMk (C CXa : Addr) (fl : Str) (g : GA) (fo : FE) (fg : FA) : FE := fun ρ M => (fo ρ M).bind fun d M1 => match d with
  | .fn c => if c = C then (fg ρ M1).bind fun ds M2 => mkF C CXa fl g ds M2 else .no
  | _ => .no
theorem de_clsMk (Mo : Mk X.K C fI) (G : FnR X.prog X.w X.K X.mg X.base (L2.CX X.prog X.w) k fI (spMk X.K C CXa fl g)) (hr : Room (k + 1) X.A) (hx : Passes (L2.CX X.prog X.w) X E) (hc : DE X E (.Name c p) fo) (ha : DA X E (e :: es) fg)
    (hst : starEach (e :: es) X.env = (false, eval e X.env) :: starEach es X.env := by rfl) (hpl : (backTo pos (starEach es X.env)).any (·.1) = false := by rfl) :
    DE X E (.Call (.Name c p) (e :: es) [] pos) (eClsMk C CXa fl g fo fg) := by
  refine pe_imp (pe_clsMk Mo G hr hx hc ha hst hpl) fun σ H Q ⟨μ, Hf, Fr, ρ, M, r0, s, z⟩ => ?_
  refine ⟨μ, Hf, Fr, ρ, M, r0, s, z.split.weak fun d μ1 Hf1 H1 M1 e1 m1 s1 p1 v rv => ?_⟩
  split at p1
  · rename_i c'
    split at p1
    · rename_i hc'
      subst hc'
      cases rv
      exact ⟨rfl, μ1, Hf1, Fr, ρ, M1, r0.mono e1 m1, s1, p1.split.weak fun ds μ2 Hf2 H2 M2 e2 m2 s2 p2 vs rs => mk_go rs s2 p2⟩
    · exact p1.elim
  · exact p1.elim
end
end Den
/-! DenKey: exceptions of one's own with an __init__ over any built-in error, also over one (KeyError) that makes its objects by the __new__ of another one. -/
namespace DenKey
open PySem PySem.F PySem.HandSPX
abbrev mroK : List Value := [.type "KeyError", .type "LookupError", .type "Exception", .type "BaseException", .type "object"]
theorem store_KeyError : StoreFacts "KeyError" mroK "object.__setattr__" "object" :=
  { mro := by kernel_rfl
    slot := .of (owner := "object") (n := "__setattr__") (by rw [typeLookup_type, builtinLookup_eq_fast]; kernel_rfl) (by decide +kernel) (by decide +kernel) (by decide +kernel) (by first | exact .inl (by decide +kernel) | exact .inr (by decide +kernel)) (by rw [isSubtype_type]; kernel_rfl)
    entry := entry_object_sa, kind := by decide +kernel, split := by decide +kernel, hasOwner := by decide +kernel, args := fun a b c => by (unfold argsOk; kernel_rfl), passes := fun self => by kernel_rfl }
/-- what the order of the class's bases says of three built-in classes -/
structure Has3 (bm : List Value) (B : String) : Prop where
  hasB : bm.contains (.type B) = true
  noAttr : bm.contains (.type "AttributeError") = false
  noName : bm.contains (.type "NameError") = false
section
variable {M : Model} {prog : Program} {w : World} {A : Around} {E : Value → Shared → Prop} {R : Result → Shared → Prop} {h : Heap} {g : Array GenState} {d : Drawn} {t : Nat} {os : OsState}
variable {nm q : Str} {C N : Addr} {bs bm bmB : List Value} {hdct : Bool} {sn : List Str} {sub : List Value} {ab : Bool} {col : Option Bool} {dd : Option Addr} {k0 k1 k2 k3 k5 : Option Value} {B newId initId : String}
theorem Has3.cB (T : Has3 bm B) : (Value.ref C :: bm).contains (.type B) = true := by rw [List.contains_cons, T.hasB, Bool.or_true]
theorem Has3.cA (T : Has3 bm B) : (Value.ref C :: bm).contains (.type "AttributeError") = false := by rw [List.contains_cons, T.noAttr]; rfl
theorem Has3.cN (T : Has3 bm B) : (Value.ref C :: bm).contains (.type "NameError") = false := by rw [List.contains_cons, T.noName]; rfl
theorem check_newT (F : ExcBaseFacts B newId initId bmB) (T : Has3 bm B) {rest : List Value} {Q : Unit → Shared → Prop} (hC : h.get? C = some (excClassObj nm q C N bs bm hdct sn sub ab col dd k0 k1 k2 k3 k5 newId)) (hq : Q () ⟨h, g, d, t, os⟩) :
    wpAny M A (checkBuiltinCall newId ⟨.ref C :: rest, []⟩) Q E ⟨h, g, d, t, os⟩ := by
  have cB := T.cB (C := C); have hstar := F.noStar
  simp only [checkBuiltinCall, F.newKind, F.newSplit, F.newRow]; repeat (first | refine wpAny_loadPart_at hC ?_ | (refine wpAny_isSubtype_exc hC ?_; rw [cB]) | refine wpAny_staticBase_exc hC ?_ | refine wpAny_madeBy_exc hC ?_ | simp only [bne_self_eq_false, Bool.false_eq_true, if_false] | wp_step)
  exact hq
theorem newT (F : ExcBaseFacts B newId initId bmB) (T : Has3 bm B) {rest : List Value} (hC : h.get? C = some (excClassObj nm q C N bs bm hdct sn sub ab col dd k0 k1 k2 k3 k5 newId))
    (hq : R (.ok (.ret (.ref (h.objs.size + 1)))) ⟨(h.push (W.kdv_tup rest)).push (excO C h.objs.size), g, d, t, os⟩) (hr : rest.length ≤ sizeLine) : codeAny (model prog w) A (.builtin newId ⟨.ref C :: rest, []⟩) R ⟨h, g, d, t, os⟩ := by
  have hends := F.ends; have hrest := hr
  have cB := T.cB (C := C); have cA := T.cA (C := C); have cN := T.cN (C := C)
  refine codeAny_builtinAt F.entry ?_; unfold Builtin.«BaseException.__new__»
  refine wpAt_bind ?_; change wpAt _ _ _ (stack >>= _) _ _ _
  refine wpAt_bind (wpAt_stack fun p below => wpAt_of_wpAny ?_); wp_walk
  refine wpAt_of_wpAny ?_; rw [F.owner]
  repeat (first | with_reducible refine wpAny_madeHere_exc F.canon hC ?_ | with_reducible refine wpAny_loadPart_at hC ?_ | (with_reducible refine wpAny_isSubtype_exc hC ?_; first | rw [cB] | rw [cA] | rw [cN]) | wp_step)
  change R _ _; rw [Heap.size_push]; exact hq
theorem type_callT (F : ExcBaseFacts B newId initId bmB) (T : Has3 bm B) {rest : List Value} {fI : Addr} {Q : Fin → Shared → Prop} (hC : h.get? C = some (excClassObj nm q C N bs bm hdct sn sub ab col dd k0 k1 k2 k3 k5 newId))
    (hi : W.Looks (model prog w) h (typeLookup (.ref C) "__init__") (some (.ref fI))) (hb : ∀ self, W.Looks (model prog w) h (bindSpecial (.ref fI) self) (.ref fI, [self])) (hr : rest.length ≤ sizeLine)
    (hq : codeAny (model prog w) A (.call (.ref fI) ⟨.ref (h.objs.size + 1) :: rest, []⟩) (fun r s' => match r with | .ok (.ret v) => v = .none ∧ Q (.done (.ret (.ref (h.objs.size + 1)))) s' | .ok _ => False | .error e => E e s') ⟨(h.push (W.kdv_tup rest)).push (excO C h.objs.size), g, d, t, os⟩) :
    wpAny (model prog w) A (Builtin.«type.__call__» ⟨.ref C :: rest, []⟩) Q E ⟨h, g, d, t, os⟩ := by
  repeat (first | with_reducible refine wpAny_loadPart_at hC ?_ | with_reducible refine wpAny_madeBy_exc hC ?_ | wp_step)
  refine codeAny_call_builtin_code (Code.quiet_builtin _ F.quiet) (check_newT F T hC (newT F T hC ?_ hr)); change wpAny _ _ _ _ _ _
  have kp : ∀ b o, h.get? b = some o → ((h.push (W.kdv_tup rest)).push (excO C h.objs.size)).get? b = some o := fun b o e => Heap.get?_push_of_some _ (Heap.get?_push_of_some _ e)
  have hC1 := kp _ _ hC; have got : ((h.push (W.kdv_tup rest)).push (excO C h.objs.size)).get? (h.objs.size + 1) = some (excO C h.objs.size) := by heap_get
  have cC : (Value.ref C :: bm).contains (.ref C) = true := by simp
  have i1 := hi.keeps kp; have b1 := (hb (.ref (h.objs.size + 1))).keeps kp
  unfold isInstance; repeat (first | with_reducible refine wpAny_loadPart_at got ?_ | (with_reducible refine wpAny_isSubtype_exc hC1 ?_; rw [cC]) | wp_step)
  change wpAny _ _ (typeLookup (.ref C) _) _ _ _; refine i1.at (wpAny_holding (wpAny_bind (b1.at (wpAny_bind (wpAny_call (codeAny_mono hq fun r s' z => ?_))))))
  rcases r with e | (v | _ | _ | _) <;> first | exact z | exact z.elim | skip
  obtain ⟨rfl, z⟩ := z
  first | exact wpAny_pure (wpAny_pure z) | (wp_walk; exact z)
theorem callT (F : ExcBaseFacts B newId initId bmB) (T : Has3 bm B) {rest : List Value} {fI : Addr} (hC : h.get? C = some (excClassObj nm q C N bs bm hdct sn sub ab col dd k0 k1 k2 k3 k5 newId))
    (hi : W.Looks (model prog w) h (typeLookup (.ref C) "__init__") (some (.ref fI))) (hb : ∀ self, W.Looks (model prog w) h (bindSpecial (.ref fI) self) (.ref fI, [self])) (hr : rest.length ≤ sizeLine)
    (hq : codeAny (model prog w) (A.under (.builtin "type.__call__" ⟨.ref C :: rest, []⟩)) (.call (.ref fI) ⟨.ref (h.objs.size + 1) :: rest, []⟩) (W.InitBack (h.objs.size + 1) R) ⟨(h.push (W.kdv_tup rest)).push (excO C h.objs.size), g, d, t, os⟩) : codeAny (model prog w) A (.call (.ref C) ⟨rest, []⟩) R ⟨h, g, d, t, os⟩ := by
  have z1 := tc_lookup; have z2 := tc_bind (.ref C)
  have zT : (⟨h, g, d, t, os⟩ : Shared).TypeIs (.ref C) "type" := ⟨_, hC, rfl⟩
  refine codeAny_of_tree ?_; change wpAny _ _ (callAny (.ref C) _) _ _ _
  repeat (any_goals (first | assumption | with_reducible refine wpAny_loadPart_at hC ?_ | wp_step))
  refine ⟨rfl, codeAny_call_builtin_at (Code.quiet_builtin _ (by decide +kernel)) entry_typeCall (wpAny_check_type_call_sub hC (type_callT F T hC hi hb hr (codeAny_mono hq fun r s' z => ?_)))⟩
  rcases r with e | (v | _ | _ | _) <;> exact z
end
end DenKey
namespace Den
open PySem PySem.Spec PyProof.Rows L2
/-! ### exceptions that are values -/
section
variable {X : Cx} {E : XK} {e : Expr} {es : List Expr} {F : FE} {G : FA} {p pos : Pos} {C fI : Addr} {bmB bmF : List Value} {B nw iw : String} {f : Str}
/-- C(e), C without an __init__ -/
@[simp] def eExc0 (C : Addr) (F : FE) : FE := fun ρ M => (F ρ M).bind fun _ M1 => .ok (.exn C [] []) M1
theorem de_exc0 {x : Str} (FB : ExcBaseFacts B nw iw bmB) (q : PySem.W.excIn X.K C bmB nw = true) (gC : X.mg x = some (.ref C)) (kC : PySem.W.keepIn X.K (.ref C) = true) (hg : Gl X x) (he : DE X E e F)
    (hs : starEach [e] X.env = (false, eval e X.env) :: starEach [] X.env := by rfl) (hdb : (x == ("__debug__" : Str)) = false := by decide) : DE X E (.Call (.Name x p) [e] [] pos) (eExc0 C F) := by
  refine pe_imp (pe_exc1 FB q gC kC hg he hs hdb) fun σ H Q ⟨μ, Hf, Fr, ρ, M, r, s, z⟩ => ?_
  exact ⟨μ, Hf, Fr, ρ, M, r, s, z.split.weak fun d μ1 Hf1 H1 M1 e1 m1 s1 p1 v rv a ha => p1.new s1 ha (fun _ => .exn0 upd_same) rfl⟩
theorem exf_heap {H : Hp} {a d C : Addr} {fs : List (Str × V)} : upd (upd (upd H a (exo a C none)) d (exd d fs)) a (exo a C (some d)) = upd (upd H d (exd d fs)) a (exo a C (some d)) := by
  funext b
  by_cases h2 : b = a
  · subst h2; rw [upd_same, upd_same]
  · rw [upd_ne h2, upd_ne h2]
    by_cases h1 : b = d
    · subst h1; rw [upd_same, upd_same]
    · rw [upd_ne h1, upd_ne h1, upd_ne h2]
/-- C(e), C's own __init__ keeping e in a field, as a value -/
theorem pe_excF {CX : CXT} {x : Str} {k : Nat} {fd : FuncData} {ps : List Str} {ta : TA} (FB : ExcBaseFacts B nw iw bmF) (H3 : DenKey.Has3 bmB B) (T : XG X.K C bmB nw f) (iC : PySem.W.findIn X.K (.ref C) "__init__" = some (some (.ref fI))) (tI : PySem.W.typeIn X.K (.ref fI) = some (.type "function"))
    (F1 : FnOk X.prog X.w X.K X.mg X.base CX k fI fd ps (spIX C f)) (hr : Room (k + 1) X.A) (hb : Binds X.K fd ps []) (hx : Passes CX X (fun _ _ _ => False)) (gl : Gl X x) (hm : X.mg x = some (.ref C)) (ha : PA X (e :: es) ta)
    (hdb : (x == ("__debug__" : Str)) = false := by decide) (hst : starEach (e :: es) X.env = (false, eval e X.env) :: starEach es X.env := by rfl) (hpl : (backTo pos (starEach es X.env)).any (·.1) = false := by rfl) :
    PE X (.Call (.Name x p) (e :: es) [] pos) (fun σ H Q => ta σ H fun vs H1 => ∃ y, vs = [y] ∧ ∀ a d, H1 a = none → H1 d = none → d ≠ a → Q (.ref a) (upd (upd H1 d (exd d [(f, y)])) a (exo a C (some d)))) := by
  refine ⟨fun pins s0 σ H Q I0 h0 => ?_⟩
  have qI := T.ini
  refine wpAny_Call_Name_kw (ld_glob I0 gl hm ?_ hdb); refine PySem.W.callWith_K (h₀ := X.base) I0.ok.mod.kin T.kC (thn (ha.run pos pins _ σ H _ I0 h0) fun us s1 ⟨vs, H1, I1, r1, y, ev, q1⟩ => ⟨I1.kIn, ?_⟩) hst hpl
  subst ev
  show wpAny _ _ (call (.ref C) us) _ _ _
  obtain ⟨nm, N, q, bs, bm, hdct, sn, sub, ab, col, dd, k0, k1, k2, k3, k5, hC, hT⟩ := PySem.W.excInit_of I1.kIn qI
  obtain ⟨h1, g1, d1, t1, o1⟩ := s1
  let a : Addr := h1.objs.size + 1
  have sz : h1.objs.size ≤ a := Nat.le_succ _
  have na : H1 a = none := I1.hok.fresh sz
  have keep : ∀ b o, h1.get? b = some o → ((h1.push (PySem.W.kdv_tup us)).push (PySem.HandSPX.excO C h1.objs.size)).get? b = some o := fun b o z => Heap.get?_push_of_some _ (Heap.get?_push_of_some _ z)
  have got : ((h1.push (PySem.W.kdv_tup us)).push (PySem.HandSPX.excO C h1.objs.size)).get? (h1.objs.size + 1) = some (PySem.HandSPX.excO C h1.objs.size) := by heap_get
  have I2 : Inv X pins σ (upd H1 a (exo a C none)) ⟨(h1.push (PySem.W.kdv_tup us)).push (PySem.HandSPX.excO C h1.objs.size), g1, d1, t1, o1⟩ := I1.laid (t' := t1) (a := a) (o := exo a C none) (h' := (h1.push (PySem.W.kdv_tup us)).push (PySem.HandSPX.excO C h1.objs.size)) keep sz (exo_ok got)
  have r2 : Vals [V.ref a, y] (Value.ref a :: us) := .cons rfl r1
  have sp : spIX C f [V.ref a, y] (upd H1 a (exo a C none)) (fun v H2 => v = .non ∧ Q (.ref a) H2) (fun _ _ _ => False) := by
    refine ⟨a, y, rfl, upd_same, fun dx n ne => ⟨rfl, ?_⟩⟩
    rw [upd_ne ne] at n
    rw [exf_heap]
    exact q1 a dx na n ne
  have lus : us.length = 1 := (Paired.length r1).symm
  have hus : us.length ≤ sizeLine := by rw [lus, sizeLine_eq]; omega
  have hlen : (Value.ref a :: us).length = ps.length := by
    have z := r2.length
    rw [F1.len _ _ _ _ sp] at z
    exact z.symm
  refine wpAny_call (DenKey.callT FB (bm := bm) ⟨by rw [hT]; exact H3.hasB, by rw [hT]; exact H3.noAttr, by rw [hT]; exact H3.noName⟩ hC (PySem.W.looks_findIn I1.kIn iC) (fun self => PySem.W.bind_fn I1.kIn self tI) hus
    (codeAny_mono (F1.run _ X.stack _ _ ⟨Value.ref a :: us, []⟩ (Value.ref a :: us) _ _ (fun _ _ _ => False) (hr.make C us []) (I2.env0.make C us []) (by have z := hb _ (Value.ref a :: us) I2.kIn (by simpa using hlen); simpa using z) r2 sp) fun r s' z => ?_))
  cases r with
  | error er => exact hx pins σ _ _ er s' I2 z
  | ok fl =>
    cases fl with
    | next => exact False.elim z
    | brk => exact False.elim z
    | cont => exact False.elim z
    | ret u =>
      obtain ⟨v, H2, I3, rv, ev, q3⟩ := I2.after z
      subst ev
      exact ⟨rv, .ref a, H2, I3, rfl, q3⟩
@[simp] def gExc1 (C : Addr) (f : Str) : GA := fun ds M => match ds with
  | [d] => .ok (.exn C [f] [d]) M
  | _ => .no
theorem de_exc1 {CX : CXT} {x : Str} {k : Nat} {fd : FuncData} {ps : List Str} (FB : ExcBaseFacts B nw iw bmF) (H3 : DenKey.Has3 bmB B) (T : XG X.K C bmB nw f) (iC : PySem.W.findIn X.K (.ref C) "__init__" = some (some (.ref fI))) (tI : PySem.W.typeIn X.K (.ref fI) = some (.type "function"))
    (F1 : FnOk X.prog X.w X.K X.mg X.base CX k fI fd ps (spIX C f)) (hr : Room (k + 1) X.A) (hb : Binds X.K fd ps []) (hx : Passes CX X (fun _ _ _ => False)) (gl : Gl X x) (hm : X.mg x = some (.ref C)) (ha : DA X E (e :: es) G)
    (hdb : (x == ("__debug__" : Str)) = false := by decide) (hst : starEach (e :: es) X.env = (false, eval e X.env) :: starEach es X.env := by rfl) (hpl : (backTo pos (starEach es X.env)).any (·.1) = false := by rfl) :
    DE X E (.Call (.Name x p) (e :: es) [] pos) (eApp (gExc1 C f) G) := by
  refine pe_imp (pe_excF FB H3 T iC tI F1 hr hb hx gl hm ha hdb hst hpl) fun σ H Q ⟨μ, Hf, Fr, ρ, M, r, s, z⟩ => ⟨μ, Hf, Fr, ρ, M, r, s, z.split.weak fun ds μ1 Hf1 H1 M1 e1 m1 s1 p1 vs rv => ?_⟩
  match ds, rv, p1 with
  | [d], .cons (v := y) r1 .nil, p1 =>
    refine ⟨y, rfl, fun a dx na nd ne => ?_⟩
    obtain ⟨s2, e2⟩ := s1.froz (o := exd dx [(f, y)]) nd rfl
    obtain ⟨s3, e3⟩ := s2.froz (p := a) (o := exo a C (some dx)) (by rw [upd_ne (Ne.symm ne)]; exact na) rfl
    exact p1 _ _ μ1 (e2.trans e3) (List.prefix_refl _) s3 _ (.exn1 (fv := [(f, y)]) upd_same (by rw [upd_ne ne]; exact upd_same) rfl (.cons (Rep.mono (e2.trans e3) (List.prefix_refl _) _ _ r1) .nil))
/-- C(e), C's own __init__ keeping e in a field -/
theorem pmk_fieldT {ta : TA} {CX : CXT} {x : Str} {k : Nat} {fd : FuncData} {ps : List Str} (FB : ExcBaseFacts B nw iw bmF) (H3 : DenKey.Has3 bmB B) (T : XG X.K C bmB nw f) (iC : PySem.W.findIn X.K (.ref C) "__init__" = some (some (.ref fI))) (tI : PySem.W.typeIn X.K (.ref fI) = some (.type "function"))
    (F1 : FnOk X.prog X.w X.K X.mg X.base CX k fI fd ps (spIX C f)) (hr : Room (k + 1) X.A) (hb : Binds X.K fd ps []) (hx : Passes CX X (fun _ _ _ => False)) (gl : Gl X x) (hm : X.mg x = some (.ref C)) (ha : PA X (e :: es) ta)
    (hdb : (x == ("__debug__" : Str)) = false := by decide) (hst : starEach (e :: es) X.env = (false, eval e X.env) :: starEach es X.env := by rfl) (hpl : (backTo pos (starEach es X.env)).any (·.1) = false := by rfl) :
    PMk X (.Call (.Name x p) (e :: es) [] pos) (fun σ H Q => ta σ H fun vs H1 => ∃ y, vs = [y] ∧ ∀ d, H1 d = none → Q (.ref C) (some d) (upd H1 d (.xd [(f, y)]))) := by
  intro pins s0 σ H Q I0 h0
  have qI := T.ini
  refine wpAny_Call_Name_kw (ld_glob I0 gl hm ?_ hdb); refine PySem.W.callWith_K (h₀ := X.base) I0.ok.mod.kin T.kC (thn (ha.run pos pins _ σ H _ I0 h0) fun us s1 ⟨vs, H1, I1, r1, y, ev, q1⟩ => ⟨I1.kIn, ?_⟩) hst hpl
  subst ev
  show wpAny _ _ (call (.ref C) us) _ _ _
  obtain ⟨nm, N, q, bs, bm, hdct, sn, sub, ab, col, dd, k0, k1, k2, k3, k5, hC, hT⟩ := PySem.W.excInit_of I1.kIn qI
  obtain ⟨h1, g1, d1, t1, o1⟩ := s1
  let a : Addr := h1.objs.size + 1
  have sz : h1.objs.size ≤ a := Nat.le_succ _
  have na : H1 a = none := I1.hok.fresh sz
  have keep : ∀ b o, h1.get? b = some o → ((h1.push (PySem.W.kdv_tup us)).push (PySem.HandSPX.excO C h1.objs.size)).get? b = some o := fun b o z => Heap.get?_push_of_some _ (Heap.get?_push_of_some _ z)
  have got : ((h1.push (PySem.W.kdv_tup us)).push (PySem.HandSPX.excO C h1.objs.size)).get? (h1.objs.size + 1) = some (PySem.HandSPX.excO C h1.objs.size) := by heap_get
  have I2 : Inv X pins σ (upd H1 a (exo a C none)) ⟨(h1.push (PySem.W.kdv_tup us)).push (PySem.HandSPX.excO C h1.objs.size), g1, d1, t1, o1⟩ := I1.laid (t' := t1) (a := a) (o := exo a C none) (h' := (h1.push (PySem.W.kdv_tup us)).push (PySem.HandSPX.excO C h1.objs.size)) keep sz (exo_ok got)
  have r2 : Vals [V.ref a, y] (Value.ref a :: us) := .cons rfl r1
  have sp : spIX C f [V.ref a, y] (upd H1 a (exo a C none)) (fun v H2 => v = .non ∧ ∃ (d : Addr) (fs : List (Str × V)), H2 a = some (exo a C (some d)) ∧ H2 d = some (exd d fs) ∧ H1 d = none ∧ Q (.ref C) (some d) (upd (del H2 a) d (.xd fs))) (fun _ _ _ => False) := by
    refine ⟨a, y, rfl, upd_same, fun dx n ne => ⟨rfl, dx, [(f, y)], upd_same, by rw [upd_ne ne, upd_same], ?_, ?_⟩⟩
    · rw [upd_ne ne] at n; exact n
    · rw [upd_ne ne] at n
      rw [heap_end na ne]
      exact q1 dx n
  have lus : us.length = 1 := (Paired.length r1).symm
  have hus : us.length ≤ sizeLine := by rw [lus, sizeLine_eq]; omega
  have hlen : (Value.ref a :: us).length = ps.length := by
    have z := r2.length
    rw [F1.len _ _ _ _ sp] at z
    exact z.symm
  refine wpAny_call (DenKey.callT FB (bm := bm) ⟨by rw [hT]; exact H3.hasB, by rw [hT]; exact H3.noAttr, by rw [hT]; exact H3.noName⟩ hC (PySem.W.looks_findIn I1.kIn iC) (fun self => PySem.W.bind_fn I1.kIn self tI) hus
    (codeAny_mono (F1.run _ X.stack _ _ ⟨Value.ref a :: us, []⟩ (Value.ref a :: us) _ _ (fun _ _ _ => False) (hr.make C us []) (I2.env0.make C us []) (by have z := hb _ (Value.ref a :: us) I2.kIn (by simpa using hlen); simpa using z) r2 sp) fun r s' z => ?_))
  cases r with
  | error er => exact hx pins σ _ _ er s' I2 z
  | ok fl =>
    cases fl with
    | next => exact False.elim z
    | brk => exact False.elim z
    | cont => exact False.elim z
    | ret u =>
      obtain ⟨v, H2, z1, z2, z3, z4, rv, z5, d, fs, z6, z7, z8, z9⟩ := z
      subst z5
      obtain ⟨h2, g2, d2, t2, o2⟩ := s'
      exact ⟨rv, mk_end (raises_own T.exC T.tyC) I1 sz keep z3 z4 z1 z2 z6 z7 z8 z9⟩
end
end Den
/-! Den32: isinstance of an exception that is a value; its field; its text by its own __str__. -/
namespace Den
open PySem PySem.Spec PySem.Calls PyProof.Rows L2
/-- an exception object of the class D -/
def ExAt (H : Hp) (a D : Addr) : Prop := H a = some (ExO (.ref D) a) ∨ ∃ dx fv, H a = some (exo a D (some dx)) ∧ H dx = some (exd dx fv)
theorem exat_inst {X : Cx} {pins : List (Addr × Obj)} {σ : L2.St} {H : Hp} {s : Shared} {a D : Addr} (I : Inv X pins σ H s) (h : ExAt H a D) : ∃ oe od, PySem.W.InstAt s.heap a oe D od := by
  rcases h with h | ⟨dx, fv, h, hd⟩
  · obtain ⟨⟨oe, vs, ho, hz, hd, _⟩, _, _⟩ := I.hok a _ h
    obtain ⟨oc, od, oda, osl⟩ := oe
    obtain ⟨h1, h2⟩ := hz
    dsimp only at h1 h2 hd
    subst h1; subst h2; subst hd
    exact ⟨_, none, ho, rfl, rfl, trivial⟩
  · obtain ⟨t1, ho⟩ := exo_at I.hok h
    obtain ⟨mA, hns, hr⟩ := exd_at I.hok hd
    obtain ⟨od, hod, hl⟩ := lookIn_ns hns
    exact ⟨_, some od, ho, rfl, rfl, hod⟩
section
open PySem.W
variable {prog : Program} {w : World} {A : Around} {E : Value → Shared → Prop} {s : Shared} {K : Frag} {x D : Addr} {ox : Obj} {od : Option Obj}
theorem found_data {C : Addr} {name : Str} {a g : Value} (hc : (clsIn K C).isSome = true) (ha : findIn K (.ref C) name = some (some a)) (hg : specialIn K a "__get__" = some (some g)) (ht : takesIn K a = some true) : findObj K C od name = some (.bind g a) := by
  obtain ⟨cd, e⟩ := Option.isSome_iff_exists.mp hc
  simp [findObj, e, ha, hg, ht]
theorem cls_isSome (h : hasDictIn K D = true) : (clsIn K D).isSome = true := by
  unfold hasDictIn at h
  cases e : clsIn K D with
  | none => rw [e] at h; cases h
  | some c => rfl
/-- e.__class__ -/
theorem kin_exn {Q : Option Value → Shared → Prop} (C : ExcC K D) (Xh : K.In s.heap) (I : InstAt s.heap x ox D od) (h : Q (some (.ref D)) { s with toks := s.toks + 1 }) : wpAny (model prog w) A (getAttr? (.ref x) "__class__") Q E s := by
  have hf := found_data (K := K) (od := od) (cls_isSome C.hd) C.ha C.hn C.ht
  obtain ⟨hp, g, d, t, os⟩ := s
  have T0 := I.type (M := model prog w); have F1 := looks_findIn (M := model prog w) Xh C.hg
  have F2 := looks_findIn (M := model prog w) Xh C.hk; have F3 := looks_find (M := model prog w) Xh I hf
  have isB : Looks (model prog w) hp (isInstance (.ref x) (.type "BaseException")) true := T0.andThen (looks_subIn Xh C.hs)
  have z2 : (Value.builtin "BaseException.__getattribute__" == Value.builtin "object.__getattribute__") = false := by decide +kernel
  have z0 : (false && onTheHeap (Value.builtin "BaseException.__getattribute__")) = false := rfl; have z1 : (onTheHeap (Value.ref D) && Value.builtin "BaseException.__getattribute__" == Value.builtin "object.__getattribute__") = false := by rw [z2]; rfl
  unfold getAttr? getAttrBy? getAttrBy; refine wpAny_bind (wpAny_mkText (wpAny_bind (wpAny_attempt (wpAny_holding (wpAny_bind (T0.at (wpAny_bind (F1.at ?_))))))))
  change wpAny _ _ (if (onTheHeap (Value.ref D) && Value.builtin "BaseException.__getattribute__" == Value.builtin "object.__getattribute__") = true then _ else _) _ _ _
  rw [z1, if_neg Bool.false_ne_true]; unfold getAttrByItsOwn hookBefore
  refine wpAny_bind ?_; rw [if_pos (show onTheHeap (Value.ref D) = true from rfl)]
  refine F2.at ?_; refine wpAny_bind (wpAny_attempt (wpAny_holding ?_))
  unfold callGetattribute; rw [z0, if_neg Bool.false_ne_true]
  unfold boundAndCalled; rw [PySem.F.excAttr_ValueError.ga.bind (.ref x)]
  refine wpAny_bind (wpAny_pure ?_); change wpAny _ _ (call (.builtin "BaseException.__getattribute__") [.ref x, .str "__class__" t]) _ _ _
  refine wpAny_call (codeAny_call_builtin PySem.F.excAttr_ValueError.ga.plain PySem.F.entry_bexc_ga (@check_slot (model prog w) _ _ ⟨hp, g, d, t + 1, os⟩ "BaseException.__getattribute__" "BaseException" "__getattribute__" (.ref x) [.str "__class__" t] [] _ (by decide +kernel) (by decide +kernel) isB (PySem.F.args_bexc_ga (.ref x) (.str "__class__" t)) ?_))
  unfold Builtin.«object.__getattribute__»; refine wpAny_bind (wpAny_of_eq (a := ((Value.ref x : Value), [Value.str "__class__" t])) (by first | rfl | (simp only [slotArgs]; rfl)) (wpAny_bind (wpAny_pure (wpAny_bind (T0.at (wpAny_bind (F3.at ?_)))))))
  change wpAny _ _ (holding [Value.builtin "object.__class__"] (call (.builtin "getset_descriptor.__get__") [.builtin "object.__class__", .ref x, .ref D]) >>= ret) _ _ _
  refine wpAny_bind (wpAny_holding (wpAny_call (class_get (s := ⟨hp, g, d, t + 1, os⟩) (ox := ox) (od := od) Xh I C.hm (wpAny_pure ?_))))
  change wpAny _ _ (handedOut (.ref D)) _ _ _
  rw [handedOut_of (v := .ref D) rfl]
  first | exact wpAny_pure (wpAny_pure h) | exact wpAny_pure h | exact wpAny_pure (wpAny_bind (wpAny_pure (wpAny_pure h)))
theorem cls_obj (h : hasDictIn K D = true) : ∃ c d cd sl, K.lookup D = some ⟨c, d, .cls cd, sl⟩ := by
  have e := cls_isSome h
  unfold clsIn at e
  split at e
  · rename_i c d cd sl ho; exact ⟨c, d, cd, sl, ho⟩
  · cases e
theorem kitx_exn (C : ExcC K D) : KitX K (.ref x) (.ref D) (fun h => InstAt h x ox D od) := by
  obtain ⟨c1, d1, cd1, sl1, hD⟩ := cls_obj C.hd
  refine { ty := fun _ _ _ I => I.type, it := fun _ _ Xh _ => ?_, ne := fun h tp dd its n sl Xh htp => ?_, ca := fun Xh I k => kin_exn C Xh I k }
  · intro A' Q' E' s' k q
    unfold isType loadHead; exact wpAny_bind (wpAny_loadPart (k _ _ (Xh _ _ hD)) (wpAny_pure q))
  · refine Bool.eq_false_iff.mpr fun q => ?_
    have e : D = tp := Value.ref.inj (beq_iff_eq.mp q); subst e
    have z := (Xh _ _ hD).symm.trans htp; cases z
end
/-! ### isinstance, as data: classes are names of built-in ones or functions' addresses -/
@[simp] def clsD : D → Option Value
  | .ty n => some (.type n)
  | .fn a => some (.ref a)
  | _ => none
theorem clsD_of {K : Kf} {μ : List Addr} {H : Hp} {v : V} {d : D} {u w : Value} (r : Rep K μ H v d) (h : clsD d = some u) (rv : RelV v w) : w = u := by
  cases r <;> cases h <;> exact rv
@[simp] def gIsE (K : Kf) (L : List Addr) : GA := fun ds M => match ds with
  | [.exn C _ _, c] => if C ∈ L then match clsD c with
    | some u => match PySem.W.kitOne K (.ref C) u with
      | some b => .ok (.bl b) M
      | none => .no
    | none => .no
    else .no
  | _ => .no
theorem exn_at {K : Kf} {μ : List Addr} {H : Hp} {v : V} {C : Addr} {ks : List Str} {xs : List D} (r : Rep K μ H v (.exn C ks xs)) : ∃ a, v = .ref a ∧ ExAt H a C := by
  cases r with
  | exn0 h => exact ⟨_, rfl, .inl h⟩
  | exn1 h hd _ _ => exact ⟨_, rfl, .inr ⟨_, _, h, hd⟩⟩
theorem ExAt.same {H H' : Hp} {a C : Addr} (h : ExAt H a C) (e : Same H H') : ExAt H' a C := h.elim (fun z => .inl (e _ _ z)) fun ⟨dx, fv, z1, z2⟩ => .inr ⟨dx, fv, e _ _ z1, e _ _ z2⟩
theorem c_isE {X : Cx} {E : XK} {L : List Addr} (hL : ∀ C ∈ L, ExcC X.K C) : CallR X (.builtin "isinstance") (rA X.K E (gIsE X.K L)) := by
  intro pins s σ H xs us Q I rv ⟨μ, Hf, Fr, M, ds, rs, sr, p⟩
  unfold gIsE at p
  split at p
  · rename_i C ks xs' c
    split at p
    · rename_i hC
      split at p
      · rename_i u hu
        split at p
        · rename_i b hb
          match rs, rv with
          | .cons r1 (.cons r2 .nil), .cons v1 (.cons v2 .nil) =>
            obtain ⟨a, rfl, ha⟩ := exn_at r1
            cases v1
            have eu := clsD_of r2 hu v2
            subst eu
            obtain ⟨oe, od, J⟩ := exat_inst I (ha.same sr.ex)
            exact PySem.W.kia_one (kitx_exn (hL C hC)) I.kIn J hb (fun z => nomatch z) fun tk => ⟨.bl b, H, I.tok tk, rfl, p.now sr _ (.bl b)⟩
        · exact p.elim
      · exact p.elim
    · exact p.elim
  · exact p.elim
/-! ### e.f, e an exception that is a value -/
theorem pe_exf {X : Cx} {C : Addr} {e : Expr} {te : TE} {pos : Pos} {n : Str} (T : XfC X.K C) (hno : PySem.W.findIn X.K (.ref C) n = some none) (he : PE X e te) (hb : attributeBase e n X.env (eval e X.env) = eval e X.env := by rfl) :
    PE X (.Attribute e n pos) (fun σ H Q => te σ H fun x H1 => ∃ a dx fs v, x = .ref a ∧ H1 a = some (exo a C (some dx)) ∧ H1 dx = some (exd dx fs) ∧ fs.lookup n = some v ∧ Q v H1) := by
  refine ⟨fun pins s σ H Q I h => attr_of hb (thn (he.run pins s σ H _ I h) fun u s1 hh => ?_)⟩
  obtain ⟨x, H1, I1, rx, a, dx, fs, v, ex, ea, ed, l, q⟩ := hh
  subst ex
  obtain rfl : u = Value.ref a := rx
  obtain ⟨t1, ho⟩ := exo_at I1.hok ea
  obtain ⟨mA, hns, hr⟩ := exd_at I1.hok ed
  obtain ⟨od, hod, hl⟩ := lookIn_ns hns
  obtain ⟨u, hu, ru⟩ := RelO.some_of (v := v) (o := mA n) (by rw [← l]; exact hr n)
  exact HandSPX.exc_get I1.kIn ⟨ho, rfl, rfl, hod⟩ T.ga T.gg T.exC (PySem.W.findObj_own T.hdC hno rfl (by rw [hl, hu])) (handed_of ru) ⟨v, H1, I1.tok _, ru, q⟩
@[simp] def exfD (C : Addr) (f : Str) (d : D) (M : Mem) : Out D := match d with
  | .exn C' [g] [x] => if C' = C ∧ g = f then .ok x M else .no
  | _ => .no
@[simp] def eExf (C : Addr) (f : Str) (F : FE) : FE := fun ρ M => (F ρ M).bind fun d M1 => exfD C f d M1
theorem de_exf {X : Cx} {E : XK} {C : Addr} {o : Expr} {F : FE} {pos : Pos} {f : Str} (ha : DE X E o F) (T : XfC X.K C) (hno : PySem.W.findIn X.K (.ref C) f = some none) (hb : attributeBase o f X.env (eval o X.env) = eval o X.env := by rfl) : DE X E (.Attribute o f pos) (eExf C f F) := by
  refine pe_imp (pe_exf T hno ha hb) fun σ H Q ⟨μ, Hf, Fr, ρ, M, r, s, z⟩ => ⟨μ, Hf, Fr, ρ, M, r, s, z.split.weak fun d μ1 Hf1 H1 M1 e1 m1 s1 p1 v rv => ?_⟩
  unfold exfD at p1
  split at p1
  · rename_i C' g x
    split at p1
    · rename_i hc
      obtain ⟨rfl, rfl⟩ := hc
      cases rv with
      | exn1 h hd hk hr =>
        rename_i a dx fv
        match fv, hk, hr with
        | [(g', w)], hk, .cons r1 .nil =>
          obtain rfl : g' = g := by simpa using hk
          exact ⟨a, dx, _, w, rfl, s1.ex _ _ h, s1.ex _ _ hd, by simp [List.lookup], p1.now s1 _ r1⟩
    · exact p1.elim
  · exact p1.elim
end Den
/-! Den33: except clauses with tuples of classes, of any length. -/
namespace Den
open PySem PySem.Spec PySem.Calls PyProof.Rows L2
section
open PySem.W
variable {M : Model} {K : Frag}
theorem exm_tupL {cs : List Value} {cls : Value} {tp e : Addr} {b : Bool} {h : Heap} (Xh : K.In h) (LT : Looks M h (typeOf (.ref e)) cls) (hp : h.get? tp = some { cls := .type "tuple", data := .seq cs.toArray }) (hx : exmAny K cls cs = some b) :
    Looks M h (excMatches (.ref e) (.ref tp)) b := by
  intro A Q E s k q
  have T1 : Looks M h (isInstance (.ref tp) (.type "tuple")) true := ((Looks.ld hp).andThen .now).andThen (Looks.of_pure isSubtype_tuple_tuple)
  have hp' := k _ _ hp
  unfold excMatches
  refine wpAny_bind (T1 _ _ _ _ k ?_)
  dsimp only
  rw [if_pos rfl]
  first
    | refine wpAny_bind (wpAny_seqItems hp' rfl ?_)
    | refine wpAny_bind (wpAny_bind (wpAny_seqItems hp' rfl (wpAny_pure ?_)))
  dsimp only [Option.getD_some, Option.getD]
  refine wpAny_bind (wpAny_pure ?_)
  refine wpAny_bind (wpAny_forIn_list _ (fun rest _ s' => s' = s ∧ ∃ b', exmAny K cls rest = some b') _ (fun c rest u s' hI => ?_) (fun u s' hI => ?_) _ _ ⟨rfl, b, hx⟩)
  · obtain ⟨rfl, b1, h1⟩ := hI
    obtain ⟨d1, d2, x1, x2, x3⟩ := exmAny_cons h1
    obtain ⟨e1, S1⟩ := exm_cls (M := M) Xh x1
    refine wpAny_bind (e1 _ _ _ _ k ?_)
    rw [if_neg (by decide)]
    exact wpAny_pure ⟨rfl, d2, x2⟩
  · obtain ⟨rfl, _⟩ := hI
    refine wpAny_bind (LT _ _ _ _ k ?_)
    refine wpAny_bind (wpAny_mono (wpAny_forIn_list _ (fun rest z s1 => s1 = s' ∧ z = (none, ()) ∧ exmAny K cls rest = some b) (fun z s1 => s1 = s' ∧ z.1 = if b = true then some true else none) (fun c rest z s1 hI => ?_) (fun z s1 hI => ?_) _ _ ⟨rfl, rfl, hx⟩) (fun z s1 hz => ?_) fun _ _ x => x)
    · obtain ⟨rfl, rfl, h1⟩ := hI
      obtain ⟨d1, d2, x1, x2, x3⟩ := exmAny_cons h1
      obtain ⟨e1, S1⟩ := exm_cls (M := M) Xh x1
      refine wpAny_bind (S1 _ _ _ _ k ?_)
      cases d1 with
      | true => rw [if_pos rfl]; exact wpAny_pure ⟨rfl, by simp [x3]⟩
      | false => rw [if_neg (by decide)]; exact wpAny_pure ⟨rfl, rfl, by rw [x3, x2]; rfl⟩
    · obtain ⟨rfl, rfl, h1⟩ := hI
      cases h1
      exact ⟨rfl, rfl⟩
    · obtain ⟨rfl, e1⟩ := hz
      rw [e1]
      cases b with
      | true => exact wpAny_pure q
      | false => exact wpAny_pure q
end
end Den
/-! Den34: try with several clauses, each with one class or a tuple of them, with a name or without. -/
namespace Den
open PySem PySem.Spec PySem.Calls PyProof.Rows L2
theorem flyZ_keeps {base h h' : Heap} {l : List Env} {e : Addr} {Z : Obj → Prop} (R : HandSPX.FlyingZ base l e Z h) (k : ∀ b o, h.get? b = some o → h'.get? b = some o) : HandSPX.FlyingZ base l e Z h' := by
  obtain ⟨f1, f2, f3, oe, vs, T, oT, ts, he, hz, hd, h1, hnT, hTe, hT, hdT, h3⟩ := R
  exact ⟨fun b o q => k b o (f1 b o q), f2, f3.of_keeps fun b o q _ => ⟨o, k b o q, rfl⟩, oe, vs, T, oT, ts, k _ _ he, hz, hd, h1, hnT, hTe, k _ _ hT, hdT, h3⟩
section
variable {X : Cx} {pins : List (Addr × Obj)} {B : Heap} {sI s : Shared} {a : Addr} {cls : Value} {d : Option Addr} {σ : L2.St} {H : Hp} {h : Heap} {D : Ends} {x n : Str} {c : Value} {i : Nat} {suite : List Stmt} {b₀ : Stmt} {np pos' : Pos} {hds : List ExceptHandler} {ts : Addr → Value → Option Addr → TS} {o : Option Str} {te : Expr} {m : Value → Option Bool}
theorem Caught.on (C : Caught X pins B sI s a cls d σ H h) {h' : Heap} (k : ∀ b o, h.get? b = some o → h'.get? b = some o) : Caught X pins B sI s a cls d σ H h' :=
  ⟨C.inv, C.nb, C.up.trans (Heap.UpToSlots.of_keeps k), flyZ_keeps C.fly k, C.na, C.os, C.ag, C.nL, C.nF⟩
/-- a clause's test lets in what m says -/
def TstOk (X : Cx) (te : Expr) (m : Value → Option Bool) : Prop :=
  ∀ {pins : List (Addr × Obj)} {B : Heap} {sI s : Shared} {a : Addr} {cls : Value} {d : Option Addr} {σ : L2.St} {H : Hp} {h : Heap} (_ : Caught X pins B sI s a cls d σ H h) {b : Bool} (_ : m cls = some b) {Q : Bool → Shared → Prop} {E1 E2 : Value → Shared → Prop},
    (∀ h', Caught X pins B sI s a cls d σ H h' → Q b { s with heap := h' }) →
    wpAny (model X.prog X.w) (X.A.mark (some (.ref a))) (eval te X.env) (fun c s1 => wpAny (model X.prog X.w) (X.A.mark (some (.ref a))) (excMatches (.ref a) c) Q E1 s1) E2 { s with heap := h }
theorem tst_name (hc : Names X x c) : TstOk X (.Name x np) (fun cls => PySem.W.exmOne X.K cls c) := fun C _ hb _ _ _ q => hb_cls hc C ((hb_is C hb).here (q _ C))
inductive NamesL (X : Cx) : List Expr → List Value → Prop
  | nil : NamesL X [] []
  | cons {x : Str} {np : Pos} {c : Value} {es : List Expr} {cs : List Value} (hc : Names X x c) (hs : starEach (.Name x np :: es) X.env = (false, eval (.Name x np) X.env) :: starEach es X.env) (r : NamesL X es cs) : NamesL X (.Name x np :: es) (c :: cs)
theorem items_names {pos : Pos} (C : Caught X pins B sI s a cls d σ H h) {E1 : Value → Shared → Prop} : ∀ {es : List Expr} {cs : List Value}, NamesL X es cs → ∀ {P : List Value → Shared → Prop}, P cs { s with heap := h } →
    wpAny (model X.prog X.w) (X.A.mark (some (.ref a))) (spliced (backTo pos (starEach es X.env))) P E1 { s with heap := h } := by
  intro es cs hm
  induction hm with
  | nil => exact fun q => wpAny_items_nil q
  | cons hc hs r ih => exact fun q => wpAny_items_cons (hb_cls hc C (ih q)) hs
theorem tst_tup {es : List Expr} {cs : List Value} {k : Nat} {tpos : Pos} (hn : NamesL X es cs) (hz : cs.length ≤ 1000) : TstOk X (.Tuple es k tpos) (fun cls => PySem.W.exmAny X.K cls cs) := by
  intro pins B sI s a cls d σ H h C b hb Q E1 E2 q
  refine wpAny_Tuple (items_names C hn ⟨Nat.le_trans hz (by rw [sizeLine_eq]; decide), ?_⟩)
  have kp : ∀ p o, h.get? p = some o → (h.push { cls := .type "tuple", data := .seq cs.toArray }).get? p = some o := fun _ _ z => Heap.get?_push_of_some _ z
  have C2 := C.on kp
  obtain ⟨oe, vs, q1, q2, _, _⟩ := C2.in
  refine (exm_tupL (M := model X.prog X.w) C2.at.kIn (fun A1 Q1 E1 s1 k1 r1 => wpAny_typeOf_ref (k1 _ _ q1) (by rw [q2.1]; exact r1)) (Heap.get?_push_size h rfl) hb).here (q _ C2)
theorem hx_no (T : TstOk X te m) (hne : ∃ t, te = t) (C : Caught X pins B sI s a cls d σ H h) (hb : m cls = some false) (next : ∀ h', Caught X pins B sI s a cls d σ H h' → wpAny (model X.prog X.w) X.A (handleBy (.ref a) X.env hds) (SP X pins D) X.xe { s with heap := h' }) :
    wpAny (model X.prog X.w) X.A (handleBy (.ref a) X.env (.ExceptHandler (some te) o (b₀ :: suite) pos' :: hds)) (SP X pins D) X.xe { s with heap := h } :=
  wpAny_handleBy_cons (codeAny_handlers_test (T C hb (fun h' C' => next h' C'))) (by intro q; cases q)
theorem hx_yes (T : TstOk X te m) (C : Caught X pins B sI s a cls d σ H h) (hb : m cls = some true) (ok : X.Ok)
    (hsu : ∀ (oe : Obj) (pn : List (Addr × Obj)), Zc cls d oe → (∃ vs, oe.data = .fields vs) → PSs (X.suite a ((a, oe) :: pn)) (b₀ :: suite) (ts a cls d)) (w : ts a cls d D σ H) :
    wpAny (model X.prog X.w) X.A (handleBy (.ref a) X.env (.ExceptHandler (some te) none (b₀ :: suite) pos' :: hds)) (SP X pins D) X.xe { s with heap := h } := by
  refine wpAny_handleBy_cons (codeAny_handlers_test (T C hb (fun h' C' => codeAny_handlers_suite (HandSPX.lands_againZ C'.fly fun h4 fl4 up4 => ?_)))) (by intro q; cases q)
  have C4 : Caught X pins B sI s a cls d σ H h4 := ⟨C'.inv, C'.nb, C'.up.trans up4, fl4, C'.na, C'.os, C'.ag, C'.nL, C'.nF⟩
  obtain ⟨oe, vs, _, q2, q3, S⟩ := C4.in
  refine wpAny_mono ((hsu oe (X.pn ++ pins) q2 ⟨_, q3⟩).run [] _ _ H _ S w) (fun f s6 z => ?_) (fun _ _ z => False.elim z)
  cases f with
  | ret u => obtain ⟨v6, σ6, H6, S6, r6, q6⟩ := z; exact ⟨v6, σ6, H6, S6.unsuite ok, r6, q6⟩
  | next => obtain ⟨σ6, H6, S6, q6⟩ := z; exact ⟨σ6, H6, S6.unsuite ok, q6⟩
  | brk => obtain ⟨σ6, H6, S6, q6⟩ := z; exact ⟨σ6, H6, S6.unsuite ok, q6⟩
  | cont => obtain ⟨σ6, H6, S6, q6⟩ := z; exact ⟨σ6, H6, S6.unsuite ok, q6⟩
theorem hx_as (T : TstOk X te m) (C : Caught X pins B sI s a cls d σ H h) (hb : m cls = some true) (ok : X.Ok) (hN : X.N.Nodup) (hi : X.N[i]? = some n) (hln : X.env.kindOf n = some .local)
    (hsu : ∀ (oe : Obj) (pn : List (Addr × Obj)), Zc cls d oe → (∃ vs, oe.data = .fields vs) → PSs (X.suite a ((a, oe) :: pn)) (b₀ :: suite) (ts a cls d)) (w : ts a cls d (offD i D) (σ.set i (some (.ref a))) H) :
    wpAny (model X.prog X.w) X.A (handleBy (.ref a) X.env (.ExceptHandler (some te) (some n) (b₀ :: suite) pos' :: hds)) (SP X pins D) X.xe { s with heap := h } := by
  refine wpAny_handleBy_cons (codeAny_handlers_test (T C hb (fun h' C' => codeAny_handlers_suite_as (HandSPX.lands_againZ C'.fly fun h4 fl4 up4 => ?_)))) (by intro q; cases q)
  have C4 : Caught X pins B sI s a cls d σ H h4 := ⟨C'.inv, C'.nb, C'.up.trans up4, fl4, C'.na, C'.os, C'.ag, C'.nL, C'.nF⟩
  obtain ⟨oe, vs, _, q2, q3, S⟩ := C4.in
  refine store_ok (X := X.suite a ((a, oe) :: (X.pn ++ pins))) (v := .ref a) S hN hi (.inl hln) rfl (fun s5 S5 => ?_) (.inr hln)
  refine wpAny_mono ((hsu oe (X.pn ++ pins) q2 ⟨_, q3⟩).run [] s5 _ H _ S5 w) (fun f s6 z => ?_) (fun _ _ z => False.elim z)
  cases f with
  | ret u => obtain ⟨v6, σ6, H6, S6, r6, q6⟩ := z; exact gone_ok (S6.unsuite ok) hN hi hln fun s7 J7 => ⟨v6, _, H6, J7, r6, q6⟩
  | next => obtain ⟨σ6, H6, S6, q6⟩ := z; exact gone_ok (S6.unsuite ok) hN hi hln fun s7 J7 => ⟨_, H6, J7, q6⟩
  | brk => obtain ⟨σ6, H6, S6, q6⟩ := z; exact gone_ok (S6.unsuite ok) hN hi hln fun s7 J7 => ⟨_, H6, J7, q6⟩
  | cont => obtain ⟨σ6, H6, S6, q6⟩ := z; exact gone_ok (S6.unsuite ok) hN hi hln fun s7 J7 => ⟨_, H6, J7, q6⟩
abbrev Cm := Option Nat × (Value → Option Bool) × (Addr → Value → Option Addr → TS)
def wMx (W : WX) (D : Ends) : List Cm → WX
  | [] => W
  | (o, m, ts) :: r => fun cls d σ H => ∃ b, m cls = some b ∧ (b = true → ∀ a, H a = none → match o with
    | none => ts a cls d D σ H
    | some i => ts a cls d (offD i D) (σ.set i (some (.ref a))) H) ∧ (b = false → wMx W D r cls d σ H)
inductive HMx (X : Cx) : List ExceptHandler → List Cm → Prop
  | nil : HMx X [] []
  | one {te : Expr} {m : Value → Option Bool} {ts : Addr → Value → Option Addr → TS} {b₀ : Stmt} {suite : List Stmt} {p' : Pos} {hds : List ExceptHandler} {l : List Cm} (T : TstOk X te m)
      (hsu : ∀ (a : Addr) (oe : Obj) (cls : Value) (d : Option Addr) (pn : List (Addr × Obj)), Zc cls d oe → (∃ vs, oe.data = .fields vs) → PSs (X.suite a ((a, oe) :: pn)) (b₀ :: suite) (ts a cls d)) (r : HMx X hds l) :
      HMx X (.ExceptHandler (some te) none (b₀ :: suite) p' :: hds) ((none, m, ts) :: l)
  | named {te : Expr} {n : Str} {i : Nat} {m : Value → Option Bool} {ts : Addr → Value → Option Addr → TS} {b₀ : Stmt} {suite : List Stmt} {p' : Pos} {hds : List ExceptHandler} {l : List Cm} (T : TstOk X te m) (hi : X.N[i]? = some n) (hln : X.env.kindOf n = some .local)
      (hsu : ∀ (a : Addr) (oe : Obj) (cls : Value) (d : Option Addr) (pn : List (Addr × Obj)), Zc cls d oe → (∃ vs, oe.data = .fields vs) → PSs (X.suite a ((a, oe) :: pn)) (b₀ :: suite) (ts a cls d)) (r : HMx X hds l) :
      HMx X (.ExceptHandler (some te) (some n) (b₀ :: suite) p' :: hds) ((some i, m, ts) :: l)
variable {W : WX}
theorem hb_mx (hs : X.stack = X.env :: X.outer) (hf : X.env.frame = some X.env.locals) (hN : X.N.Nodup) (ok : X.Ok) (tk : Takes X W) : ∀ {hds : List ExceptHandler} {l : List Cm}, HMx X hds l → ∀ {h : Heap}, Caught X pins B sI s a cls d σ H h → wMx W D l cls d σ H →
    wpAny (model X.prog X.w) X.A (handleBy (.ref a) X.env hds) (SP X pins D) X.xe { s with heap := h } := by
  intro hds l hm
  induction hm with
  | nil => exact fun C w => hb_end hs hf tk C w
  | one T hsu r ih =>
    rintro h C ⟨b, hb, yes, no⟩
    cases b with
    | true => exact hx_yes T C hb ok (fun oe pn => hsu a oe cls d pn) (yes rfl a C.na)
    | false => exact hx_no T ⟨_, rfl⟩ C hb (fun h' C' => ih C' (no rfl))
  | named T hi hln hsu r ih =>
    rintro h C ⟨b, hb, yes, no⟩
    cases b with
    | true => exact hx_as T C hb ok hN hi hln (fun oe pn => hsu a oe cls d pn) (yes rfl a C.na)
    | false => exact hx_no T ⟨_, rfl⟩ C hb (fun h' C' => ih C' (no rfl))
theorem ps_try_mx {body : List Stmt} {h₀ : ExceptHandler} {hds : List ExceptHandler} {l : List Cm} {pos : Pos} {tb : WX → TS} (hs : X.stack = X.env :: X.outer) (hf : X.env.frame = some X.env.locals) (hN : X.N.Nodup) (tk : Takes X W)
    (hb : ∀ (W1 : WX) (pn : List (Addr × Obj)) (xe : Value → Shared → Prop), Takes (X.tr pn xe) W1 → PassesOwn (model X.prog X.w) X.A X.env xe → PSs (X.tr pn xe) body (tb W1)) (hh : HMx X (h₀ :: hds) l) :
    PS X (.Try body (h₀ :: hds) [] [] pos) (fun D σ H => tb (wMx W D l) D σ H) := by
  refine ⟨fun pins0 s0 σ0 H0 D0 I0 q0 => ?_⟩
  have ok := I0.ok
  have fr : X.A.frames = some (X.env :: X.outer) := ok.frames.trans (by rw [hs])
  let back : Value → Shared → Prop := fun e s₁ => wpAny (model X.prog X.w) X.A (noteFrame e X.env) (fun _ s₂ => wpAny (model X.prog X.w) X.A (setFlight e none) (fun _ s₃ => wpAny (model X.prog X.w) X.A (handleBy e X.env (h₀ :: hds)) (SP X pins0 D0) X.xe s₃) X.xe s₂) X.xe s₁
  have takes : Takes (X.tr (X.pn ++ pins0) back) (wMx W D0 l) := by
    rintro u s1 ⟨a, B, sI, pins1, σ1, H1, cls, d, rfl, J1, nb, up, sky, na, os, ag, w⟩
    have J : Inv X pins0 σ1 H1 sI := J1.ofTry ok
    show wpAny (model X.prog X.w) X.A (noteFrame (.ref a) X.env) _ _ _
    refine Sky.land Zc.steady fr hf (by rw [← hs]; exact sky) fun h3 fly up3 => ?_
    obtain ⟨oe, vs, g1, g2, g3⟩ := fly.there
    have off : ∀ b, b = a → b ∉ frs (X.env :: X.outer) := fun b hb hm => by
      subst hb
      obtain ⟨_, o1, g4, g5⟩ := fly.2.2.1.mem hm
      rw [g1] at g4; cases g4
      exact g5 _ g3
    have nL : a ≠ X.env.locals := fun z => off a rfl (List.mem_filterMap.mpr ⟨X.env, List.mem_cons_self, by rw [hf, z]⟩)
    have nF : a ∉ X.fs := fun hm => by
      obtain ⟨e1, g6, g7⟩ := List.mem_filterMap.mp hm
      exact off a rfl (List.mem_filterMap.mpr ⟨e1, List.mem_cons_of_mem _ g6, g7⟩)
    exact hb_mx hs hf hN ok tk hh (⟨J, nb, up.trans up3, fly, na, os, ag, nL, nF⟩ : Caught X pins0 B sI s1 a cls d σ1 H1 h3) w
  refine wpAny_Try_except (wpAny_mono ((hb (wMx W D0 l) (X.pn ++ pins0) back takes PassesOwn.looking).run [] s0 σ0 H0 D0 (I0.toTry _) q0) (fun fl s1 z => ?_) (fun e s1 z => z))
  cases fl with
  | next => obtain ⟨σ1, H1, J1, q⟩ := z; exact wpAny_execs_nil ⟨σ1, H1, J1.ofTry ok, q⟩
  | brk => obtain ⟨σ1, H1, J1, q⟩ := z; exact ⟨σ1, H1, J1.ofTry ok, q⟩
  | cont => obtain ⟨σ1, H1, J1, q⟩ := z; exact ⟨σ1, H1, J1.ofTry ok, q⟩
  | ret u => obtain ⟨v1, σ1, H1, J1, r1, q⟩ := z; exact ⟨v1, σ1, H1, J1.ofTry ok, r1, q⟩
end
end Den
/-! Den35: str(e) by an own __str__. -/
namespace Den
open PySem PySem.Spec PySem.Calls PyProof.Rows L2
/-- a def run from within a built-in -/
theorem run_in {X : Cx} {k : Nat} {f : Addr} {fd : FuncData} {ps : List Str} {g : GA} {A : Around} {pins : List (Addr × Obj)} {σ : L2.St} {H : Hp} {s : Shared} {Q : VK} {us : List Value} {vs : List V}
    (G : FnG X.prog X.w X.K X.mg X.base CX0 k f fd ps g) (hr : Room k A) (fr : A.frames = X.A.frames) (hgd : A.guards = some []) (hb : Binds X.K fd ps []) (I : Inv X pins σ H s) (r : Vals vs us) (h : spD X.K ps.length g vs H Q EN) :
    wpAny (model X.prog X.w) A (call (.ref f) us) (EP X pins σ Q) X.xe s := by
  have hn : us.length = ps.length := r.length.symm.trans h.1
  have e := I.env0
  have e0 : Env0 X.prog X.w X.K X.mg X.base A X.stack s H := ⟨by rw [fr]; exact e.frames, e.mod, e.bs, e.bsz, e.funs, e.frf, e.hok, e.bare⟩
  have bd : BindsTo s fd ⟨us, []⟩ (ps.zip us) := by
    have z := hb s us I.kIn (by simpa using hn)
    simpa using z
  refine wpAny_call (codeAny_mono (G.run A X.stack s H ⟨us, []⟩ us vs Q EN hr hgd e0 bd r h) fun res s' q => ?_)
  match res, q with
  | .ok (.ret u), q => exact I.after q
section
open PySem.W Builtin Builtin.Str
variable {prog : Program} {w : World} {A : Around} {E : Value → Shared → Prop} {s : Shared} {K : Frag} {x C f : Addr} {ox : Obj} {od : Option Obj}
/-- str(o), o's class with its own __str__ -/
theorem str_own {Q : Value → Shared → Prop} (hu : A.in1.in1.units < cLine) (Xh : K.In s.heap) (I : InstAt s.heap x ox C od) (hs : findIn K (.ref C) "__str__" = some (some (.ref f))) (hf : isFn K (.ref f) = true)
    (h : wpAny (model prog w) A.in1.in1 (call (.ref f) [.ref x]) (fun r s1 => ∃ y u, r = .str y u ∧ Q r s1) E s) : wpAny (model prog w) A (call (.type "str") [.ref x]) Q E s := by
  have key : wpAny (model prog w) A.in1.in1 (PySem.Builtin.Str.strOf (.ref x)) (fun r s₁ => ∃ y u, r = .str y u ∧ Q r s₁) E s := by
    unfold PySem.Builtin.Str.strOf
    rw [show isExactStr (.ref x) = false from rfl]; refine wpAny_bind (m := cRoomFor _ _) (wpAny_cRoomFor hu ?_)
    refine wpAny_bind (m := callSpecial? (.ref x) (Str.ofString "__str__")) (special_fn Xh I hs (beq_iff_eq.mp hf) (wpAny_mono h (fun r s' z => ?_) fun _ _ y => y))
    obtain ⟨y, u, rfl, q⟩ := z
    exact wpAny_pure ⟨y, u, rfl, q⟩
  refine callType_codes (T := "str") (Bi := Builtin.«object.__init__») (Q₁ := fun r s₁ => ∃ y u, r = .str y u ∧ Q r s₁) PySem.F.called_str (PySem.F.typeCall_str_1 _) PySem.F.entry_object_init (codeAny_of_tree ?_) ?_
  · change wpAny _ A.in1.in1 (do checkBuiltinCall "str.__new__" ⟨[.type "str", .ref x], []⟩; again (.builtin "str.__new__" ⟨[.type "str", .ref x], []⟩)) _ _ s
    refine wpAny_bind (wpAny_of_eq (PySem.F.newCall_str_1 _) (wpAny_pure ⟨plainId_quiet (by decide +kernel) _, codeAny_builtin PySem.F.entry_str_new (by
      rw [Around.under_plainId (by decide +kernel) _]; rw [str_new_tree]
      exact wpAny_bind (wpAny_pure (wpAny_bind (wpAny_of_eq isSubtype_str_str (wpAny_bind (wpAny_mono key (fun r s₁ hr => wpAny_pure hr) fun _ _ y => y))))))⟩))
  · rintro obj s₁ ⟨y, u, rfl, hq⟩
    exact ⟨typeIs_str _ _ _, PySem.F.args_object_init_2 _ _, object_init_meets PySem.F.called_str.init.lookup PySem.F.called_str.made (by decide) prog w A.in1 _ s₁ ⟨typeIs_str _ _ _, rfl, hq⟩⟩
end
/-- what is known of the __str__ of an exception's class -/
structure StrOf (P : Program) (w : World) (K : Kf) (mg : Str → Option Value) (base : Heap) (k : Nat) (C : Addr) (g : GA) : Prop where
  ex : ∃ (f : Addr) (fd : FuncData), PySem.W.findIn K (.ref C) "__str__" = some (some (.ref f)) ∧ PySem.W.isFn K (.ref f) = true ∧ Binds K fd ["self"] [] ∧ FnG P w K mg base CX0 k f fd ["self"] g
@[simp] def strO (o : Out D) : Out D := match o with
  | .ok (.str z) M => .ok (.str z) M
  | _ => .no
@[simp] def gStr2 (C1 : Addr) (g1 : GA) (C2 : Addr) (g2 : GA) : GA := fun ds M => match ds with
  | [.exn C ks xs] => if C = C1 then strO (g1 [.exn C ks xs] M) else if C = C2 then strO (g2 [.exn C ks xs] M) else .no
  | _ => .no
theorem str_go {X : Cx} {E : XK} {k : Nat} {C : Addr} {g : GA} (S : StrOf X.prog X.w X.K X.mg X.base k C g) (hr : Room (k + 2) X.A) (hgd : X.A.guards = some []) {pins : List (Addr × Obj)} {σ : L2.St} {H Hf Fr : Hp} {s : Shared} {Q : VK} {μ : List Addr} {M : Mem} {ks : List Str} {xs : List D} {v : V} {u : Value}
    (I : Inv X pins σ H s) (r1 : Rep X.K μ Hf v (.exn C ks xs)) (v1 : RelV v u) (sr : SR X.K μ Hf Fr H M) (p : Post X.K E (strO (g [.exn C ks xs] M)) μ Hf Fr (kD X.K Q)) : wpAny (model X.prog X.w) X.A (call (.type "str") [u]) (EP X pins σ Q) X.xe s := by
  obtain ⟨f, fd, h1, h2, h3, G⟩ := S.ex
  obtain ⟨a, rfl, ha⟩ := exn_at r1
  cases v1
  obtain ⟨oe, od, J⟩ := exat_inst I (ha.same sr.ex)
  refine str_own (hr.in1.in1.units0) I.kIn J h1 h2 (wpAny_mono (run_in (vs := [V.ref a]) G hr.in1.in1 rfl hgd h3 I (.cons rfl .nil) (Q := fun v H' => (∃ z, v = .str z) ∧ Q v H') ⟨rfl, μ, Hf, Fr, M, [.exn C ks xs], .cons r1 .nil, sr, ?_⟩) (fun r s' z => ?_) fun _ _ y => y)
  · unfold strO at p
    split at p
    · rename_i z M1 hz
      rw [hz]
      exact fun H' Hf' μ' e m s' v rv => by cases rv; exact ⟨⟨z, rfl⟩, p H' Hf' μ' e m s' _ (.str z)⟩
    · exact p.elim
  · obtain ⟨v, H', I', rv, ⟨z, rfl⟩, q⟩ := z
    obtain ⟨t, rfl⟩ := rv
    exact ⟨z, t, rfl, .str z, H', I', ⟨t, rfl⟩, q⟩
theorem c_str2 {X : Cx} {E : XK} {k : Nat} {C1 C2 : Addr} {g1 g2 : GA} (S1 : StrOf X.prog X.w X.K X.mg X.base k C1 g1) (S2 : StrOf X.prog X.w X.K X.mg X.base k C2 g2) (hr : Room (k + 2) X.A) (hgd : X.A.guards = some []) : CallR X (.type "str") (rA X.K E (gStr2 C1 g1 C2 g2)) := by
  intro pins s σ H xs us Q I rv ⟨μ, Hf, Fr, M, ds, rs, sr, p⟩
  unfold gStr2 at p
  split at p
  · rename_i C ks xs'
    match rs, rv with
    | .cons r1 .nil, .cons v1 .nil =>
      split at p
      · rename_i hC
        subst hC
        exact str_go S1 hr hgd I r1 v1 sr p
      · split at p
        · rename_i hC
          subst hC
          exact str_go S2 hr hgd I r1 v1 sr p
        · exact p.elim
  · exact p.elim
end Den
/-! Den36: try: f(..) / except ..: return e, with many clauses, as data; raise C(e). -/
namespace Den
open PySem PySem.Spec PySem.Calls PyProof.Rows L2
/-- a clause: its name's place, what it lets in, what it hands back -/
abbrev DC := Option Nat × (Value → Option Bool) × (XD → Ro → Mem → Out D)
@[simp] def pickX : List DC → XD → FS
  | [], _ => fun _ _ => .no
  | (_, m, hd) :: r, x => fun ρ M => match m x.cls with
    | some true => (hd x ρ M).bind fun d M1 => .ok (.rt d) M1
    | some false => pickX r x ρ M
    | none => .no
@[simp] def tryO (cl : List DC) (ρ : Ro) : Out D → Out Fl
  | .ok _ M => .ok (.nx ρ) M
  | .exc x M => pickX cl x ρ M
  | .no => .no
@[simp] def sTryC (g : GA) (n : Nat) (fg : FA) (cl : List DC) : FS := fun ρ M => ((fg ρ M).noX).bind fun xs M1 => if xs.length = n then tryO cl ρ (g xs M1) else .no
/-- a suite, entered -/
def tsC (K : Kf) (E : XK) (o : Option Nat) (hd : XD → Ro → Mem → Out D) : Addr → Value → Option Addr → TS := fun a cls d D σ H => ∃ (x : XD) (μ : List Addr) (Hf Fr : Hp) (ρ : Ro) (M : Mem) (σ0 : L2.St), x.cls = cls ∧ XRep K μ Hf H x d ∧ ERep K μ Hf σ0 ρ ∧ (σ = match o with
    | none => σ0
    | some i => σ0.set i (some (.ref a))) ∧ SR K μ Hf Fr H M ∧ Post K E (hd x ρ M) μ Hf Fr (kD K D.rt)
@[simp] def cmOf (K : Kf) (E : XK) : DC → Cm := fun p => (p.1, p.2.1, tsC K E p.1 p.2.2)
section
variable {X : Cx} {E : XK} {e : Expr} {es : List Expr} {fg : FA} {p cpos epos pos : Pos} {k n : Nat} {x : Str} {g : GA} {h₀ : ExceptHandler} {hds : List ExceptHandler} {cl : List DC}
theorem pick_go {cls : Value} {K : Kf} {μ : List Addr} {Hf Fr : Hp} {N : Ends} {σ : L2.St} {ρ : Ro} {M : Mem} {y : XD} (ecls : y.cls = cls) (r : ERep K μ Hf σ ρ) : ∀ {cl : List DC}, Post K E (pickX cl y ρ M) μ Hf Fr (kS K N) → ∀ dx H' Hf' μ', Same Hf Hf' → μ <+: μ' → SR K μ' Hf' Fr H' M → XRep K μ' Hf' H' y dx →
    wMx (fun _ _ _ _ => False) N (cl.map (cmOf K E)) cls dx σ H' := by
  intro cl
  induction cl with
  | nil => exact fun p => p.elim
  | cons c cl ih =>
    obtain ⟨o, m, hd⟩ := c
    intro p dx H' Hf' μ' e1 m1 s1 xr
    unfold pickX at p
    cases hm : m y.cls with
    | none => rw [hm] at p; exact p.elim
    | some b =>
      rw [hm] at p
      refine ⟨b, by rw [← ecls]; exact hm, fun hb a ha => ?_, fun hb => ?_⟩
      · subst hb
        have q : Post K E (hd y ρ M) μ' Hf' Fr (kD K N.rt) := (Post.weak (Post.split p) fun d μ2 Hf2 H2 M2 e2 m2 s2 p2 v rv => p2.now s2 v rv).later e1 m1
        cases o with
        | none => exact ⟨y, μ', Hf', Fr, ρ, M, σ, ecls, xr, r.mono e1 m1, rfl, s1, q⟩
        | some i => exact ⟨y, μ', Hf', Fr, ρ, M, σ, ecls, xr, r.mono e1 m1, rfl, s1, q⟩
      · subst hb
        exact ih p dx H' Hf' μ' e1 m1 s1 xr
theorem ds_tryC (C : CalX X.prog X.w X.K X.mg X.base k x n g) (hr : Room k X.A) (hg : Gl X x) (hs : X.stack = X.env :: X.outer) (hf : X.env.frame = some X.env.locals) (hN : X.N.Nodup)
    (ha : ∀ (pn : List (Addr × Obj)) (xe : Value → Shared → Prop), DA (X.tr pn xe) EN (e :: es) fg) (hm : HMx X (h₀ :: hds) (cl.map (cmOf X.K E)))
    (hsw : ∀ env : Env, swapsWith (.Call (.Name x p) (e :: es) [] cpos) none epos.line env = pure false) (hdb : (x == ("__debug__" : Str)) = false := by decide)
    (he : ∀ (pn : List (Addr × Obj)) (xe : Value → Shared → Prop), starEach (e :: es) (X.tr pn xe).env = (false, eval e (X.tr pn xe).env) :: starEach es (X.tr pn xe).env := by intro _ _; rfl) (hpl : ∀ (pn : List (Addr × Obj)) (xe : Value → Shared → Prop), (backTo cpos (starEach es (X.tr pn xe).env)).any (·.1) = false := by intro _ _; rfl) :
    DS X E (.Try [.Expr (.Call (.Name x p) (e :: es) [] cpos) epos] (h₀ :: hds) [] [] pos) (sTryC g n fg cl) := by
  obtain ⟨f, fd, ps, hmf, hk, hb, rfl, G⟩ := C.ex
  refine ps_imp (ps_try_mx (W := fun _ _ _ _ => False) (tb := fun W D σ H => tCallS (spD X.K ps.length g) (WE W) (taF X.K EN fg) σ H (fun _ H' => D.nx σ H')) hs hf hN takes0
    (fun W pn xe tk _ => pss_one (ps_expr (pe_callS (X := X.tr pn xe) (E := WE W) G hr hg hmf hk hb (fun σ => passAt tk σ) (ha pn xe) hdb (he pn xe) (hpl pn xe)) (hsw _))) hm) fun N σ H ⟨μ, Hf, Fr, ρ, M, r, s, q⟩ => ?_
  unfold sTryC at q
  refine ⟨μ, Hf, Fr, ρ, M, r, s, (post_noX q).weak fun xs μ1 Hf1 H1 M1 e1 m1 s1 p1 vs rs => ?_⟩
  split at p1
  · rename_i hl
    refine ⟨by rw [rs.length]; exact hl, μ1, Hf1, Fr, M1, xs, rs, s1, ?_⟩
    cases hF : g xs M1 with
    | ok d M2 =>
      rw [hF] at p1
      exact fun H' Hf' μ' e2 m2 s2 v rv => p1 H' Hf' μ' e2 m2 s2 σ ((r.mono e1 m1).mono e2 m2)
    | exc y M2 =>
      rw [hF] at p1
      exact fun dx H' Hf' μ' e2 m2 s2 xr => pick_go rfl (r.mono e1 m1) p1 dx H' Hf' μ' e2 m2 s2 xr
    | no => rw [hF] at p1; exact p1.elim
  · exact p1.elim
/-! ### suites -/
/-- return e, in a clause without a name -/
theorem su_ret {a : Addr} {oe : Obj} {cls : Value} {d : Option Addr} {pn : List (Addr × Obj)} {F : FE} {e1 : Expr} {rpos : Pos} (h : DE (X.suite a ((a, oe) :: pn)) E e1 F) : PSs (X.suite a ((a, oe) :: pn)) [.Return (some e1) rpos] (tsC X.K E none (fun _ => F) a cls d) :=
  ⟨fun pins s σ H D I ⟨y, μ, Hf, Fr, ρ, M, σ0, h1, h2, h3, h4, h5, h6⟩ => (pss_one (ps_ret h)).run pins s σ H D I (by subst h4; exact ⟨μ, Hf, Fr, ρ, M, h3, h5, h6⟩)⟩
/-- return [k, repr(n.f)] -/
@[simp] def hdRepr (C : Addr) (f : Str) (kn : Int) (gr : GA) : XD → Ro → Mem → Out D := fun y _ M => match y.cls, y.fs with
  | .ref C', some [(h, v)] => if C' = C ∧ h = f then (gr [v] M).bind fun s M1 => .ok (.lst [.int kn, s]) M1 else .no
  | _, _ => .no
theorem su_repr {a C : Addr} {oe : Obj} {cls : Value} {d : Option Addr} {pn : List (Addr × Obj)} {i : Nat} {nm f : Str} {kn : Int} {gr : GA} {j1 : Nat} {p1 p2 p3 p4 p5 p6 p7 : Pos} (hi : X.N[i]? = some nm) (hv : Vis X.env.scope nm) (T : XfC X.K C) (hno : PySem.W.findIn X.K (.ref C) f = some none) (hz : Zc cls d oe) (hfl : ∃ vs, oe.data = .fields vs)
    (hc : CallR (X.suite a ((a, oe) :: pn)) (.builtin "repr") (rA X.K EN gr)) (gl : Gl X "repr") (hm : X.mg "repr" = none) (hx1 : (nm == ("__debug__" : Str)) = false := by decide) (hx2 : (nm == ("__classdict__" : Str)) = false := by decide) :
    PSs (X.suite a ((a, oe) :: pn)) [.Return (some (.List [.Constant (.int kn) j1 p1, .Call (.Name "repr" p2) [.Attribute (.Name nm p3) f p4] [] p5] p6)) p7] (tsC X.K E (some i) (hdRepr C f kn (fun ds M => (gr ds M).noX)) a cls d) := by
  have hvar : PE (X.suite a ((a, oe) :: pn)) (.Name nm p3) (tVar i) := pe_var (i := i) hi hv hx1 hx2
  have one := pe_callB (X := X.suite a ((a, oe) :: pn)) (pos := p5) (p := p2) hc gl hm PyProof.Rows.Boot.«repr» (pa_cons (pe_xf (pos := p4) T hno hz hfl hvar) pa_nil)
  refine ⟨fun pins s σ H D I ⟨y, μ, Hf, Fr, ρ, M, σ0, h1, h2, h3, h4, h5, h6⟩ => (pss_one (ps_ret (pe_lst (pa_cons (pe_int (i := kn) (j := j1) (pos := p1)) (pa_cons one pa_nil))))).run pins s σ H D I ?_⟩
  have hlen := I.len
  rw [h4, List.length_set] at hlen
  have hi' : i < X.N.length := (List.getElem?_eq_some_iff.mp hi).1
  unfold hdRepr at h6
  split at h6
  · rename_i C' hh v hcl hfs
    split at h6
    · rename_i hc2
      obtain ⟨rfl, rfl⟩ := hc2
      unfold XRep at h2
      rw [hfs] at h2
      obtain ⟨dd, fvs, e1, e2, e3⟩ := h2
      match fvs, e3 with
      | [(f2, w)], e3 =>
        obtain ⟨rfl, rw', _⟩ := e3
        refine ⟨.ref a, by rw [h4]; exact List.getElem?_set_self (by rw [hlen]; exact hi'), rfl, h1.symm.trans hcl, dd, _, w, e1, e2, by simp [List.lookup], ?_⟩
        refine ⟨μ, Hf, Fr, M, [v], .cons rw' .nil, h5, (post_noX h6).weak fun sd μ1 Hf1 H1 M1 e1 m1 s1 p1 u ru => ⟨by show 2 ≤ sizeLine; rw [sizeLine_eq]; decide, fun q hq => ?_⟩⟩
        obtain ⟨s2, e2⟩ := s1.froz (o := .lst [V.int kn, u]) hq rfl
        exact p1 _ _ μ1 e2 (List.prefix_refl _) s2 _ (.lst upd_same (.cons (.int kn) (.cons (Rep.mono e2 (List.prefix_refl _) _ _ ru) .nil)))
    · exact h6.elim
  · exact h6.elim
end
end Den
/-! Den37: suites that ask isinstance; raise C(e); dicts of any data by written numbers; d.get(k, e); repr also with empty dicts. -/
namespace Den
open PySem PySem.Spec PySem.Calls PyProof.Rows L2
section
variable {X : Cx} {E : XK}
@[simp] def hdIs3 (K : Kf) (L : List Addr) (A B : Addr) (k1 k2 k3 : Int) : XD → Ro → Mem → Out D := fun y _ M => match y.cls, y.fs with
  | .ref C, none => if C ∈ L then match PySem.W.kitOne K (.ref C) (.ref A) with
    | some true => .ok (.lst [.int k1]) M
    | some false => match PySem.W.kitOne K (.ref C) (.ref B) with
      | some b => .ok (.lst [.int (if b = true then k2 else k3)]) M
      | none => .no
    | none => .no
    else .no
  | _, _ => .no
@[simp] def hdIs2 (K : Kf) (L : List Addr) (A : Addr) (k1 k2 : Int) : XD → Ro → Mem → Out D := fun y _ M => match y.cls, y.fs with
  | .ref C, none => if C ∈ L then match PySem.W.kitOne K (.ref C) (.ref A) with
    | some b => .ok (.lst [.int (if b = true then k1 else k2)]) M
    | none => .no
    else .no
  | _, _ => .no
theorem kS_lst {K : Kf} {μ : List Addr} {Hf Fr H : Hp} {M : Mem} {v : V} {d : D} {Q : VK} (p : Post K E (.ok (.lst [d]) M) μ Hf Fr (kD K Q)) (s : SR K μ Hf Fr H M) (r : Rep K μ Hf v d) : [v].length ≤ sizeLine ∧ ∀ q, H q = none → Q (.ref q) (upd H q (.lst [v])) :=
  ⟨by show 1 ≤ sizeLine; rw [sizeLine_eq]; decide, fun q hq => p.new s hq fun e => rep_lst (.cons r .nil) e⟩
section
variable {a : Addr} {oe : Obj} {cls : Value} {d : Option Addr} {pn : List (Addr × Obj)} {i : Nat} {nm nA nB : Str} {A B : Addr} {k1 k2 k3 : Int} {j1 j2 j3 : Nat} {p1 p2 p3 p4 p5 p6 p7 p8 p9 p10 p11 p12 p13 p14 p15 : Pos} {L : List Addr}
theorem su_is2 (hi : X.N[i]? = some nm) (hv : Vis X.env.scope nm) (hL : ∀ C ∈ L, ExcC X.K C) (hz : Zc cls d oe) (hfl : ∃ vs, oe.data = .fields vs) (gl : Gl X "isinstance") (hm : X.mg "isinstance" = none) (gA : Gl X nA) (mA : X.mg nA = some (.ref A))
    (hx1 : (nm == ("__debug__" : Str)) = false := by decide) (hx2 : (nm == ("__classdict__" : Str)) = false := by decide) (dA : (nA == ("__debug__" : Str)) = false := by decide) :
    PSs (X.suite a ((a, oe) :: pn)) [.Return (some (.List [.IfExp (.Call (.Name "isinstance" p1) [.Name nm p2, .Name nA p3] [] p4) (.Constant (.int k1) j1 p5) (.Constant (.int k2) j2 p6) p7] p8)) p9] (tsC X.K E (some i) (hdIs2 X.K L A k1 k2) a cls d) := by
  refine ⟨fun pins s σ H D I ⟨y, μ, Hf, Fr, ρ, M, σ0, h1, h2, h3, h4, h5, h6⟩ => ?_⟩
  have hlen := I.len
  rw [h4, List.length_set] at hlen
  have hi' : i < X.N.length := (List.getElem?_eq_some_iff.mp hi).1
  have sl : σ[i]? = some (some (.ref a)) := by rw [h4]; exact List.getElem?_set_self (by rw [hlen]; exact hi')
  unfold hdIs2 at h6
  split at h6
  · rename_i C hcl hfs
    split at h6
    · rename_i hC
      have ed : d = none := by unfold XRep at h2; rw [hfs] at h2; exact h2
      have ec : cls = .ref C := h1.symm.trans hcl
      subst ed; subst ec
      split at h6
      · rename_i b hb
        have hvar : PE (X.suite a ((a, oe) :: pn)) (.Name nm p2) (tVar i) := pe_var (i := i) hi hv hx1 hx2
        have one := pe_callB (X := X.suite a ((a, oe) :: pn)) (pos := p4) (p := p1) (call_isE (X := X) (pn := pn) (hL C hC) hz hfl) gl hm PyProof.Rows.Boot.«isinstance» (pa_cons hvar (pa_cons (pe_glob (X := X.suite a ((a, oe) :: pn)) (pos := p3) (v := .ref A) gA mA rfl dA) pa_nil))
        refine (pss_one (ps_ret (pe_lst (pa_cons (pe_ifExp (pt_val one) (pe_int (i := k1) (j := j1) (pos := p5)) (pe_int (i := k2) (j := j2) (pos := p6))) pa_nil)))).run pins s σ H D I ?_
        refine ⟨.ref a, sl, .ref A, .ref A, b, rfl, fun u h => h, hb, b, rfl, ?_⟩
        cases b with
        | true => exact iteT (kS_lst h6 h5 (.int _))
        | false => exact iteF (kS_lst h6 h5 (.int _))
      · exact h6.elim
    · exact h6.elim
  · exact h6.elim
theorem su_is3 (hi : X.N[i]? = some nm) (hv : Vis X.env.scope nm) (hL : ∀ C ∈ L, ExcC X.K C) (hz : Zc cls d oe) (hfl : ∃ vs, oe.data = .fields vs) (gl : Gl X "isinstance") (hm : X.mg "isinstance" = none) (gA : Gl X nA) (mA : X.mg nA = some (.ref A)) (gB : Gl X nB) (mB : X.mg nB = some (.ref B))
    (hx1 : (nm == ("__debug__" : Str)) = false := by decide) (hx2 : (nm == ("__classdict__" : Str)) = false := by decide) (dA : (nA == ("__debug__" : Str)) = false := by decide) (dB : (nB == ("__debug__" : Str)) = false := by decide) :
    PSs (X.suite a ((a, oe) :: pn)) [.Return (some (.List [.IfExp (.Call (.Name "isinstance" p1) [.Name nm p2, .Name nA p3] [] p4) (.Constant (.int k1) j1 p5) (.IfExp (.Call (.Name "isinstance" p10) [.Name nm p11, .Name nB p12] [] p13) (.Constant (.int k2) j2 p6) (.Constant (.int k3) j3 p14) p15) p7] p8)) p9] (tsC X.K E (some i) (hdIs3 X.K L A B k1 k2 k3) a cls d) := by
  refine ⟨fun pins s σ H D I ⟨y, μ, Hf, Fr, ρ, M, σ0, h1, h2, h3, h4, h5, h6⟩ => ?_⟩
  have hlen := I.len
  rw [h4, List.length_set] at hlen
  have hi' : i < X.N.length := (List.getElem?_eq_some_iff.mp hi).1
  have sl : σ[i]? = some (some (.ref a)) := by rw [h4]; exact List.getElem?_set_self (by rw [hlen]; exact hi')
  unfold hdIs3 at h6
  split at h6
  · rename_i C hcl hfs
    split at h6
    · rename_i hC
      have ed : d = none := by unfold XRep at h2; rw [hfs] at h2; exact h2
      have ec : cls = .ref C := h1.symm.trans hcl
      subst ed; subst ec
      have hvar : ∀ q, PE (X.suite a ((a, oe) :: pn)) (.Name nm q) (tVar i) := fun q => pe_var (i := i) hi hv hx1 hx2
      have one := pe_callB (X := X.suite a ((a, oe) :: pn)) (pos := p4) (p := p1) (call_isE (X := X) (pn := pn) (hL C hC) hz hfl) gl hm PyProof.Rows.Boot.«isinstance» (pa_cons (hvar p2) (pa_cons (pe_glob (X := X.suite a ((a, oe) :: pn)) (pos := p3) (v := .ref A) gA mA rfl dA) pa_nil))
      have two := pe_callB (X := X.suite a ((a, oe) :: pn)) (pos := p13) (p := p10) (call_isE (X := X) (pn := pn) (hL C hC) hz hfl) gl hm PyProof.Rows.Boot.«isinstance» (pa_cons (hvar p11) (pa_cons (pe_glob (X := X.suite a ((a, oe) :: pn)) (pos := p12) (v := .ref B) gB mB rfl dB) pa_nil))
      refine (pss_one (ps_ret (pe_lst (pa_cons (pe_ifExp (pt_val one) (pe_int (i := k1) (j := j1) (pos := p5)) (pe_ifExp (pt_val two) (pe_int (i := k2) (j := j2) (pos := p6)) (pe_int (i := k3) (j := j3) (pos := p14)))) pa_nil)))).run pins s σ H D I ?_
      split at h6
      · rename_i hb
        exact ⟨.ref a, sl, .ref A, .ref A, true, rfl, fun u h => h, hb, true, rfl, iteT (kS_lst h6 h5 (.int _))⟩
      · rename_i hb
        refine ⟨.ref a, sl, .ref A, .ref A, false, rfl, fun u h => h, hb, false, rfl, iteF ?_⟩
        split at h6
        · rename_i b hb2
          refine ⟨.ref a, sl, .ref B, .ref B, b, rfl, fun u h => h, hb2, b, rfl, ?_⟩
          cases b with
          | true => exact iteT (kS_lst h6 h5 (.int _))
          | false => exact iteF (kS_lst h6 h5 (.int _))
        · exact h6.elim
      · exact h6.elim
    · exact h6.elim
  · exact h6.elim
end
/-! ### raise C(e), C without an __init__ -/
@[simp] def sRaise1 (C : Addr) (F : FE) : FS := fun ρ M => (F ρ M).bind fun _ M1 => .exc ⟨.ref C, none⟩ M1
theorem ds_raise1 {st : Stmt} {C : Addr} {F : FE} (h : PS X st (fun _ σ H => teF X.K E F σ H fun _ H1 => E (.ref C) none H1)) : DS X E st (sRaise1 C F) := by
  refine ps_imp h fun N σ H ⟨μ, Hf, Fr, ρ, M, r, s, p⟩ => ⟨μ, Hf, Fr, ρ, M, r, s, ?_⟩
  exact (Post.split (f := fun _ M1 => (.exc ⟨.ref C, none⟩ M1 : Out Fl)) p).weak fun d μ1 Hf1 H1 M1 e1 m1 s1 p1 v rv => p1 none H1 Hf1 μ1 (Same.refl _) (List.prefix_refl _) s1 rfl
/-! ### {1: e, ..} -/
@[simp] def disL : List (Int × FE) → FA
  | [] => fun _ M => .ok [] M
  | (_, F) :: r => fun ρ M => (F ρ M).bind fun d M1 => (disL r ρ M1).bind fun ds M2 => .ok (d :: ds) M2
@[simp] def eDis (l : List (Int × FE)) : FE := fun ρ M => (disL l ρ M).bind fun ds M1 => .ok (.dct (l.map fun p => .inl p.1) ds) M1
inductive DPs (X : Cx) (E : XK) : List (Option Expr) → List Expr → List (Int × FE) → Prop
  | nil : DPs X E [] [] []
  | cons {ke ve : Expr} {i : Int} {F : FE} {ks : List (Option Expr)} {vs : List Expr} {l : List (Int × FE)} (hk : PE X ke (tC (.int i))) (hv : DE X E ve F) (r : DPs X E ks vs l) : DPs X E (some ke :: ks) (ve :: vs) ((i, F) :: l)
theorem DPs.pps {pos : Pos} {ks : List (Option Expr)} {vs : List Expr} {l : List (Int × FE)} (h : DPs X E ks vs l) : PPs X pos ks vs (l.map fun p => (tC (.int p.1), teF X.K E p.2)) := by
  induction h with
  | nil => exact pps_nil
  | cons hk hv r ih => exact pps_cons hk hv ih
theorem DPs.len {ks : List (Option Expr)} {vs : List Expr} {l : List (Int × FE)} (h : DPs X E ks vs l) : ks.length = l.length ∧ vs.length = l.length ∧ ks.all (·.isSome) = true := by
  induction h with
  | nil => exact ⟨rfl, rfl, rfl⟩
  | cons hk hv r ih => exact ⟨by simp [ih.1], by simp [ih.2.1], by simpa using ih.2.2⟩
theorem dis_go {K : Kf} {Fr : Hp} {σ : L2.St} {ρ : Ro} : ∀ {l : List (Int × FE)} {μ : List Addr} {Hf H : Hp} {M : Mem} {Q : List (V × V) → Hp → Prop}, ERep K μ Hf σ ρ → SR K μ Hf Fr H M →
    Post K E (disL l ρ M) μ Hf Fr (fun ds μ' Hf' H' _ => ∀ vs, RepAll K μ' Hf' vs ds → vs.length = l.length → Q ((l.map fun p => V.int p.1).zip vs) H') → tPairs (l.map fun p => (tC (.int p.1), teF K E p.2)) σ H Q := by
  intro l
  induction l with
  | nil => exact fun r s p => p.now s [] .nil rfl
  | cons c l ih =>
    obtain ⟨i, F⟩ := c
    intro μ Hf H M Q r s p
    refine ⟨μ, Hf, Fr, ρ, M, r, s, (Post.split p).weak fun d μ1 Hf1 H1 M1 e1 m1 s1 p1 v rv => ?_⟩
    refine ih (r.mono e1 m1) s1 ((Post.split p1).weak fun ds μ2 Hf2 H2 M2 e2 m2 s2 p2 vs rvs hl => ?_)
    exact p2.now s2 (v :: vs) (.cons (Rep.mono e2 m2 _ _ rv) rvs) (by simp [hl])
theorem put_new {kvs : List (L2.Key × V)} {k : L2.Key} {v : V} (h : k ∉ kvs.map Prod.fst) : putK kvs k v = kvs ++ [(k, v)] := by
  unfold putK
  rw [if_neg]
  simp only [List.any_eq_true, decide_eq_true_eq, not_exists, not_and]
  exact fun kv hk e => h (e ▸ List.mem_map_of_mem hk)
theorem merge_new : ∀ {more kvs : List (L2.Key × V)}, ((kvs ++ more).map Prod.fst).Nodup → mergeK kvs more = kvs ++ more
  | [], kvs, _ => by simp [mergeK]
  | (k, v) :: more, kvs, h => by
    have hn : k ∉ kvs.map Prod.fst := by
      simp only [List.map_append, List.map_cons, List.nodup_append, List.nodup_cons] at h
      exact fun z => (h.2.2 k z k (by simp)) rfl
    show mergeK (putK kvs k v) more = _
    rw [put_new hn, merge_new (by simpa using h), List.append_assoc]
    rfl
theorem de_dis {ks : List (Option Expr)} {vs : List Expr} {l : List (Int × FE)} {pos : Pos} (h : DPs X E ks vs l) (h0 : ks ≠ []) (h15 : l.length ≤ 15) (hn : (l.map Prod.fst).Nodup) : DE X E (.Dict ks vs pos) (eDis l) := by
  obtain ⟨z1, z2, z3⟩ := h.len
  refine pe_imp (pe_disp h.pps z3 (z1.trans z2.symm) h0 (by rw [z1]; exact h15)) fun σ H Q ⟨μ, Hf, Fr, ρ, M, r, s, z⟩ q hq => ?_
  have fq : Fr q = none := s.fr.free hq
  refine dis_go (Fr := upd Fr q (.dK [])) r (s.hide hq) (((Post.split z).fr fq).weak fun ds μ1 Hf1 H1 M1 e1 m1 s1 p1 us rus hl => ?_)
  let kvs : List (L2.Key × V) := (l.map fun p => (Sum.inl p.1 : L2.Key)).zip us
  have hk : kvs.map Prod.fst = l.map fun p => (Sum.inl p.1 : L2.Key) := List.map_fst_zip (by simp [hl])
  have hv : kvs.map Prod.snd = us := List.map_snd_zip (by simp [hl])
  have hm : mergeK [] kvs = kvs := by
    refine (merge_new (kvs := []) ?_).trans (List.nil_append _)
    rw [List.nil_append, hk]
    have z4 : (l.map fun p => (Sum.inl p.1 : L2.Key)) = (l.map Prod.fst).map fun i => (Sum.inl i : L2.Key) := by rw [List.map_map]; rfl
    rw [z4]
    exact List.pairwise_map.mpr (List.Pairwise.imp (fun hab e => hab (Sum.inl.inj e)) hn)
  refine ⟨s1.fr q _ upd_same, kvs, ?_, ?_, ?_⟩
  · simp only [kvs, List.zip_map_left, List.map_map]
    apply List.map_congr_left
    rintro ⟨p, v⟩ _
    rfl
  · simp only [kvs, List.length_zip, List.length_map]
    omega
  · rw [hm]
    obtain ⟨s2, e2⟩ := (s1.hideTurn (o' := .dK kvs)).show fq
    exact p1 _ _ μ1 e2 (List.prefix_refl _) s2 _ (.dct upd_same hk (by rw [hv]; exact RepAll.mono e2 (List.prefix_refl _) _ _ rus))
end
end Den
/-! Den38: d.get(k, e) as data; repr also of {} and [{}]. -/
namespace Den
open PySem PySem.Spec PySem.Calls PyProof.Rows L2
def dval : List L2.Key → List D → L2.Key → Option D
  | k :: ks, x :: xs, j => if k = j then some x else dval ks xs j
  | _, _, _ => none
theorem dval_rep {K : Kf} {μ : List Addr} {H : Hp} {j : L2.Key} : ∀ {kvs : List (L2.Key × V)} {xs : List D}, RepAll K μ H (kvs.map Prod.snd) xs → match dval (kvs.map Prod.fst) xs j with
    | some d => ∃ v, valV kvs j = some v ∧ Rep K μ H v d
    | none => valV kvs j = none
  | [], xs, h => by cases h; rfl
  | (k, v) :: kvs, xs, h => by
    cases h with
    | cons r t =>
      have ih := dval_rep (j := j) t
      unfold dval valV
      by_cases hk : k = j
      · simp only [List.map_cons, hk, if_true]
        exact ⟨v, by simp, r⟩
      · simp only [List.map_cons, if_neg hk]
        have e : (List.find? (fun kv : L2.Key × V => decide (kv.1 = j)) ((k, v) :: kvs)) = List.find? (fun kv => decide (kv.1 = j)) kvs := by simp [hk]
        rw [e]
        exact ih
section
variable {X : Cx} {E : XK} {o e f : Expr} {fa fb fc : FE}
@[simp] def getD2 (d y z : D) (M : Mem) : Out D := match d, y with
  | .dct ks xs, .int i => match dval ks xs (.inl i) with
    | some x => .ok x M
    | none => .ok z M
  | _, _ => .no
@[simp] def isDct : D → Bool
  | .dct _ _ => true
  | _ => false
@[simp] def eGet2 (fa fb fc : FE) : FE := fun ρ M => (fa ρ M).bind fun d M1 => if isDct d = true then (fb ρ M1).bind fun y M2 => (fc ρ M2).bind fun z M3 => getD2 d y z M3 else .no
theorem de_get2 {apos cpos : Pos} (hu : X.A.units + 64 < cLine) (ho : DE X E o fa) (he : DE X E e fb) (hf : DE X E f fc) (m1 : attributeBase o "get" X.env (eval o X.env) = eval o X.env := by rfl)
    (m2 : ((backTo cpos (starEach [e, f] X.env)).all (fun x => !x.1) && (backToKw cpos (keywordEach [] X.env)).all (fun x => x.1.isSome) && decide (([e, f] : List Expr).length + ([] : List Keyword).length + (if ([] : List Keyword).isEmpty then 0 else 1) < 30)) = true := by rfl)
    (m3 : (apos.endLine == cpos.line) = true := by rfl) (m4 : backTo cpos (starEach [e, f] X.env) = [(false, eval e X.env), (false, eval f X.env)] := by rfl) : DE X E (.Call (.Attribute o "get" apos) [e, f] [] cpos) (eGet2 fa fb fc) := by
  refine pe_imp (pe_dget2 (by omega) ho he hf ⟨m1, m2, m3, m4⟩) fun σ H Q ⟨μ, Hf, Fr, ρ, M, r, s, z⟩ => ?_
  refine ⟨μ, Hf, Fr, ρ, M, r, s, z.split.weak fun d μ1 Hf1 H1 M1 e1 m1 s1 p1 v rv => ?_⟩
  split at p1
  · rename_i hd
    unfold isDct at hd
    split at hd
    · rename_i ks xs
      cases rv with
      | dct h hk rs =>
        rename_i a kvs
        refine ⟨a, rfl, .inl ⟨kvs, .inl (s1.ex _ _ h)⟩, μ1, Hf1, Fr, ρ, M1, r.mono e1 m1, s1, p1.split.weak fun y μ2 Hf2 H2 M2 e2 m2 s2 p2 v2 r2 => ?_⟩
        refine ⟨μ2, Hf2, Fr, ρ, M2, (r.mono e1 m1).mono e2 m2, s2, p2.split.weak fun w μ3 Hf3 H3 M3 e3 m3 s3 p3 v3 r3 => ?_⟩
        unfold getD2 at p3
        split at p3
        · rename_i ks' xs' i heq
          cases heq
          cases r2
          refine ⟨valV kvs (.inl i), DGet.k (k := .inl i) (s3.ex _ _ (e3 _ _ (e2 _ _ h))), ?_⟩
          have q := dval_rep (j := .inl i) (RepAll.mono (e2.trans e3) (m2.trans m3) _ _ rs)
          rw [hk] at q
          split at p3
          · rename_i x hx
            rw [hx] at q
            obtain ⟨u, hu, ru⟩ := q
            rw [hu]
            exact p3.now s3 u ru
          · rename_i hx
            rw [hx] at q
            have q' : valV kvs (.inl i) = none := q
            rw [q']
            exact p3.now s3 v3 r3
        · exact p3.elim
    · cases hd
  · exact p1.elim
/-! ### repr of {} and [{}] -/
@[simp] def gReprX : GA := fun ds M => match ds with
  | [.dct [] []] => .ok (.str "{}") M
  | [.lst [.dct [] []]] => .ok (.str "[{}]") M
  | ds => gRepr ds M
theorem empty_reads {pins : List (Addr × Obj)} {σ : L2.St} {H : Hp} {s : Shared} {a : Addr} (I : Inv X pins σ H s) (h : H a = some (.dK [])) : Reads s.heap (.ref a) (.dict []) [a] ∧ sysModules ≠ a := by
  obtain ⟨_, hd, vs, kv, o, es, ep, ho, hx, hdat, hko, hps, _⟩ := dk_of I.hok h
  have hv : vs = [] := by cases kv; rfl
  subst hv
  have hes' : es.toList = [] := by
    generalize es.toList = l at hps
    cases hps; rfl
  refine ⟨?_, fun z => by rw [← z] at hd; simp at hd⟩
  have z := Reads.dict (h := s.heap) (a := a) (kvs := []) (as := []) (bs := []) ho hx.1 hdat (by rw [hes']; exact .nil) (by rw [hes']; exact .nil)
  simpa using z
theorem list_shown {prog : Program} {w : World} {A : Around} {E1 : Value → Shared → Prop} {s : Shared} {Q : Value → Shared → Prop} {a x : Addr} {n : Nat} {xs : List PyData} {as : List Addr} (hl : s.heap.get? a = some { cls := .type "list", data := .seq #[Value.ref x] n }) (r : ReadsAll s.heap [.ref x] xs as) (hno : sysModules ∉ as) (hs : PyData.showableAll xs = true)
    (hg : A.guards = some []) (hu : A.units + 64 < cLine) (hdep : (PyData.list xs).depth ≤ 60) (hz : (PyData.list xs).shown.length ≤ sizeLine) (hQ : ∀ h' u tk, (∀ b o, s.heap.get? b = some o → h'.get? b = some o) → Q (.str (PyData.list xs).shown u) { s with heap := h', toks := tk }) :
    wpAny (model prog w) A (call (.builtin "repr") [.ref a]) Q E1 s := by
  have hz' : (listText (PyData.shownAll xs)).length ≤ sizeLine := by simpa only [PyData.shown] using hz
  obtain ⟨bs, hb, hk⟩ := ReprAllK.of_readsAll (prog := prog) (w := w) r hs (fun _ hm => hno hm) (fun t ht => Nat.le_trans (listText_mem_le ht) hz')
  have whole : Reads s.heap (.ref a) (.list xs) (a :: as) := .list hl rfl rfl r
  have na : a ∉ bs := not_mem_of_deeper whole (by simp only [PyData.depth]; omega) hb
  refine call_repr_slot (T := "list") (idr := "list.__repr__") (by omega) ⟨_, hl, rfl⟩ PySem.F.slot_list_repr.toG ?_
  have key : ∀ (A : Around), A.guards = some [] → A.units + (PyData.list xs).depth < cLine → wpAny (model prog w) A (call (.builtin "list.__repr__") [.ref a]) (fun r s₁ => ∃ x t, r = Value.str x t ∧ Q r s₁) E1 s := by
    intro A hg hu
    simp only [PyData.depth] at hu
    simp only [PyData.shown] at hQ
    exact call_list_reprK hl rfl rfl na (by simpa using hk.length_eq) (fun i y e => hk.item i y (by simpa using e)) hg (fun b _ => Clear.nil b) hu (fun _ _ e => e) (fun h' u tk k1 => ⟨_, _, rfl, hQ h' u tk k1⟩) hz'
  exact key A.in1 hg (by show A.units + 1 + (PyData.list xs).depth < cLine; omega)
theorem c_reprX (hg : X.A.guards = some []) (hu : X.A.units + 64 < cLine) : CallR X (.builtin "repr") (rA X.K E gReprX) := by
  intro pins s σ H xs us Q I rv ⟨μ, Hf, Fr, M, ds, rs, sr, p⟩
  unfold gReprX at p
  split at p
  · match rs, rv with
    | .cons (.dct (a := a) (kvs := kvs) h hk hr) .nil, .cons v1 .nil =>
      have e : kvs = [] := by simpa using hk
      subst e
      cases v1
      obtain ⟨q1, q2⟩ := empty_reads I (sr.ex _ _ h)
      refine repr_of_reads' q1 (by rfl) (fun _ z => q2 (by simpa using z)) hg (by show X.A.units + (_ + 1) < _; simp only [PyData.depth, PyData.depthKv]; omega) (fun _ _ e => e) (fun h' u tk hk => ?_) (by rw [show (PyData.dict []).shown = ("{}" : Str) from rfl]; decide)
      exact ⟨.str _, H, I.kept (t' := tk) hk, ⟨u, rfl⟩, p.now sr _ (.str _)⟩
  · match rs, rv with
    | .cons (.lst (a := la) (vs := [.ref a]) hl (.cons (.dct (a := _) (kvs := kvs) h hk hr) .nil)) .nil, .cons v1 .nil =>
      have e : kvs = [] := by simpa using hk
      subst e
      cases v1
      obtain ⟨q1, q2⟩ := empty_reads I (sr.ex _ _ h)
      obtain ⟨_, its, n, rits, hget⟩ := (show ObjOk X.prog X.w H s.heap la (.lst [.ref a]) from I.hok la _ (sr.ex _ _ hl))
      match its, rits with
      | [u0], .cons ru .nil =>
        cases ru
        refine list_shown (xs := [.dict []]) (as := [a] ++ []) hget (.cons q1 .nil) (fun z => q2 (by simpa using z)) rfl hg hu (by decide) (by rw [show (PyData.list [.dict []]).shown = ("[{}]" : Str) from rfl]; decide) (fun h' u tk hk => ?_)
        exact ⟨.str _, H, I.kept (t' := tk) hk, ⟨u, rfl⟩, p.now sr _ (.str _)⟩
  · exact c_repr hg hu pins s σ H xs us Q I rv ⟨μ, Hf, Fr, M, ds, rs, sr, p⟩
end
end Den
namespace K01
open PySem PySem.Spec PyProof.Rows L2 Den
/-- where the classes stand: FallError, then the twelve others -/
structure Er where
  (F W M P R L O E N U T B D : Addr)
/-- where their __init__ stand -/
structure Ei where
  (R E N U T B D : Addr)
def allE (c : Er) : List Addr := [c.W, c.M, c.P, c.R, c.L, c.O, c.E, c.N, c.U, c.T, c.B, c.D]
def gStrF (C : Addr) (f : Str) : GA := defF 1 (sRet (eApp gReprX (aCons (eExf C f (eVar 0)) aNil)))
section
variable {P : Program} {w : World} {K : Kf} {mg : Str → Option Value} {base : Heap}
abbrev topS (i : Nat) : Stmt := PySem.Challenge.pw_fallsback_k01_whole_errors_of_the_packag.main.body.getD i (.Pass ⟨0, 0, 0, 0⟩)
/-- what the module's top has left -/
structure Txt (K : Kf) (mg : Str → Option Value) : Prop where
  b_ArithmeticError : mg "ArithmeticError" = none
  b_IndexError : mg "IndexError" = none
  b_KeyError : mg "KeyError" = none
  b_LookupError : mg "LookupError" = none
  b_OverflowError : mg "OverflowError" = none
  b_ValueError : mg "ValueError" = none
  b_ZeroDivisionError : mg "ZeroDivisionError" = none
  b_abs : mg "abs" = none
  b_int : mg "int" = none
  b_isinstance : mg "isinstance" = none
  b_len : mg "len" = none
  b_max : mg "max" = none
  b_min : mg "min" = none
  b_range : mg "range" = none
  b_repr : mg "repr" = none
  b_str : mg "str" = none
/-! _law_stock -/
abbrev s__law_stock : Stmt := topS 15
abbrev N__law_stock : List Str := ["_law_script", "_law_at", "_law_cell", "_law_great", "_law_mixed"]
theorem sc__law_stock : FnScope N__law_stock ["_law_script", "_law_at"] (defScope s__law_stock) := ⟨rfl, rfl, rfl, by decide +kernel, rfl, by decide +kernel, by decide +kernel⟩
def f__law_stock : FS := (sSeq (sSet 2 (eIf (fB (eTwo gLt' (eVar 1) (eApp gLen (aCons (eVar 0) aNil)))) (eTwo gIx (eVar 0) (eVar 1)) (eTwo gAdd (eTwo gMul (eInt 43) (eVar 1)) (eInt 17)))) (sSeq (sSet 3 (eTwo gMod (eApp gInt (aCons (eApp gAbs (aCons (eVar 2) aNil)) aNil)) (eTwo gPow (eTwo gPow (eInt 10) (eInt 60)) (eInt 11)))) (sSeq (sSet 4 (eTwo gAdd (eTwo gAdd (eTwo gAdd (eTwo gMul (eTwo gMod (eApp gInt (aCons (eVar 3) aNil)) (eInt 2147483423)) (eInt 78713)) (eTwo gMul (eInt 6007) (eVar 1))) (eTwo gMul (eInt 29) (eApp gInt (aCons (eTwo gLt' (eVar 2) (eInt 0)) aNil)))) (eInt 53))) (sRet (eLoc (aCons (eApp gMax (aCons (eInt 0) (aCons (eTwo gSub (eVar 3) (eTwo gPow (eInt 10) (eInt 18))) aNil))) (aCons (eTwo gMod (eApp gInt (aCons (eVar 4) aNil)) (eInt 2305843009213693907)) (aCons (eInt 0) aNil))))))))
def g__law_stock : GA := defF 5 (f__law_stock)
theorem ok__law_stock {f : Addr} {fd : FuncData} (F : Fun K "_law_stock" "_law_stock" s__law_stock f fd) (T : Txt K mg) : FnG P w K mg base CX0 1 f fd ["_law_script", "_law_at"] (g__law_stock) :=
  fnG_of F sc__law_stock fun cdv A outer s H E hr hgd => by
    unfold f__law_stock
    exact (ds_cons (ds_set (ps_set (i := 2) sc__law_stock.nd rfl (by first | exact Or.inl rfl | exact Or.inr rfl) (de_ifx (dt_of o_lt (de_var (pv 1)) (de_bi c_len (by rfl) T.b_len (by decide +kernel) (da_cons (de_var (pv 0)) da_nil)) (nomark _)) (de_ix (de_var (pv 0)) (de_var (pv 1))) (de_two o_add (de_two o_mul de_int (de_var (pv 1))) de_int)))) (ds_cons (ds_set (ps_set (i := 3) sc__law_stock.nd rfl (by first | exact Or.inl rfl | exact Or.inr rfl) (de_two o_mod (de_bt c_int (by rfl) T.b_int (by decide +kernel) (da_cons (de_bi c_abs (by rfl) T.b_abs (by decide +kernel) (da_cons (de_var (pv 2)) da_nil)) da_nil)) (de_two o_pow (de_two o_pow de_int de_int) de_int)))) (ds_cons (ds_set (ps_set (i := 4) sc__law_stock.nd rfl (by first | exact Or.inl rfl | exact Or.inr rfl) (de_two o_add (de_two o_add (de_two o_add (de_two o_mul (de_two o_mod (de_bt c_int (by rfl) T.b_int (by decide +kernel) (da_cons (de_var (pv 3)) da_nil)) de_int) de_int) (de_two o_mul de_int (de_var (pv 1)))) (de_two o_mul de_int (de_bt c_int (by rfl) T.b_int (by decide +kernel) (da_cons (de_cmp o_lt (de_var (pv 2)) de_int (nomark _)) da_nil)))) de_int))) (ds_one (ds_ret (de_loc (da_cons (de_bi (c_max rfl) (by rfl) T.b_max (by decide +kernel) (da_cons de_int (da_cons (de_two o_sub (de_var (pv 3)) (de_two o_pow de_int de_int)) da_nil))) (da_cons (de_two o_mod (de_bt c_int (by rfl) T.b_int (by decide +kernel) (da_cons (de_var (pv 4)) da_nil)) de_int) (da_cons de_int da_nil)))))))))
/-! _law_draw -/
abbrev s__law_draw : Stmt := topS 16
abbrev N__law_draw : List Str := ["_law_stock_here", "_law_total", "_law_one", "_law_two", "_law_found"]
theorem sc__law_draw : FnScope N__law_draw ["_law_stock_here", "_law_total"] (defScope s__law_draw) := ⟨rfl, rfl, rfl, by decide +kernel, rfl, by decide +kernel, by decide +kernel⟩
def f__law_draw : FS := (sSeq (sIf (fB (eTwo gGt (eTwo gIx (eVar 0) (eInt 0)) (eInt 0))) (sSeq (sSet 4 (eTwo gMod (eApp gInt (aCons (eTwo gIx (eVar 0) (eInt 0)) aNil)) (eVar 1))) (sSeq (sSetIx (eTwo gDiv (eTwo gIx (eVar 0) (eInt 0)) (eVar 1)) (eVar 0) (eInt 0)) (sRet (eVar 4)))) sNx) (sSeq (sSetIx (eTwo gAdd (eTwo gIx (eVar 0) (eInt 2)) (eInt 1)) (eVar 0) (eInt 2)) (sSeq (sSet 2 (eTwo gMod (eApp gInt (aCons (eTwo gAdd (eTwo gIx (eVar 0) (eInt 1)) (eTwo gMul (eInt 1000357) (eTwo gIx (eVar 0) (eInt 2)))) aNil)) (eInt 2305843009213693951))) (sSeq (sSet 3 (eTwo gAdd (eTwo gMul (eTwo gMod (eApp gInt (aCons (eTwo gMul (eVar 2) (eVar 2)) aNil)) (eInt 2305843009213693921)) (eVar 2)) (eTwo gMul (eInt 9029) (eTwo gIx (eVar 0) (eInt 2))))) (sRet (eTwo gMod (eApp gInt (aCons (eTwo gDiv (eTwo gMod (eApp gInt (aCons (eVar 3) aNil)) (eInt 2305843009213693907)) (eInt 16384)) aNil)) (eVar 1)))))))
def g__law_draw : GA := defF 5 (f__law_draw)
theorem ok__law_draw {f : Addr} {fd : FuncData} (F : Fun K "_law_draw" "_law_draw" s__law_draw f fd) (T : Txt K mg) : FnG P w K mg base CX0 1 f fd ["_law_stock_here", "_law_total"] (g__law_draw) :=
  fnG_of F sc__law_draw fun cdv A outer s H E hr hgd => by
    unfold f__law_draw
    exact (ds_cons (ds_if (dt_of o_gt (de_ix (de_var (pv 0)) de_int) de_int (nomark _)) (ds_cons (ds_set (ps_set (i := 4) sc__law_draw.nd rfl (by first | exact Or.inl rfl | exact Or.inr rfl) (de_two o_mod (de_bt c_int (by rfl) T.b_int (by decide +kernel) (da_cons (de_ix (de_var (pv 0)) de_int) da_nil)) (de_var (pv 1))))) (ds_cons (ds_setIx (de_two o_div (de_ix (de_var (pv 0)) de_int) (de_var (pv 1))) (de_var (pv 0)) de_int) (ds_one (ds_ret (de_var (pv 4)))))) ds_nil) (ds_cons (ds_setIx (de_two o_add (de_ix (de_var (pv 0)) de_int) de_int) (de_var (pv 0)) de_int) (ds_cons (ds_set (ps_set (i := 2) sc__law_draw.nd rfl (by first | exact Or.inl rfl | exact Or.inr rfl) (de_two o_mod (de_bt c_int (by rfl) T.b_int (by decide +kernel) (da_cons (de_two o_add (de_ix (de_var (pv 0)) de_int) (de_two o_mul de_int (de_ix (de_var (pv 0)) de_int))) da_nil)) de_int))) (ds_cons (ds_set (ps_set (i := 3) sc__law_draw.nd rfl (by first | exact Or.inl rfl | exact Or.inr rfl) (de_two o_add (de_two o_mul (de_two o_mod (de_bt c_int (by rfl) T.b_int (by decide +kernel) (da_cons (de_two o_mul (de_var (pv 2)) (de_var (pv 2))) da_nil)) de_int) (de_var (pv 2))) (de_two o_mul de_int (de_ix (de_var (pv 0)) de_int))))) (ds_one (ds_ret (de_two o_mod (de_bt c_int (by rfl) T.b_int (by decide +kernel) (da_cons (de_two o_div (de_two o_mod (de_bt c_int (by rfl) T.b_int (by decide +kernel) (da_cons (de_var (pv 3)) da_nil)) de_int) de_int) da_nil)) (de_var (pv 1)))))))))
/-! _law_own_classes -/
abbrev s__law_own_classes : Stmt := topS 18
abbrev N__law_own_classes : List Str := ["_law_error", "_law_first", "_law_last"]
theorem sc__law_own_classes : FnScope N__law_own_classes ["_law_error"] (defScope s__law_own_classes) := ⟨rfl, rfl, rfl, by decide +kernel, rfl, by decide +kernel, by decide +kernel⟩
def f__law_own_classes (K : Kf) (c : Er) : FS := (sSeq (sSet 1 (eLst (aCons (eApp (gIsE K (allE c)) (aCons (eVar 0) (aCons (eFn c.F) aNil))) (aCons (eApp (gIsE K (allE c)) (aCons (eVar 0) (aCons (eFn c.W) aNil))) (aCons (eApp (gIsE K (allE c)) (aCons (eVar 0) (aCons (eFn c.M) aNil))) aNil))))) (sSeq (sSet 1 (eTwo gAdd (eVar 1) (eLst (aCons (eApp (gIsE K (allE c)) (aCons (eVar 0) (aCons (eFn c.P) aNil))) (aCons (eApp (gIsE K (allE c)) (aCons (eVar 0) (aCons (eFn c.R) aNil))) (aCons (eApp (gIsE K (allE c)) (aCons (eVar 0) (aCons (eFn c.L) aNil))) aNil)))))) (sSeq (sSet 1 (eTwo gAdd (eVar 1) (eLst (aCons (eApp (gIsE K (allE c)) (aCons (eVar 0) (aCons (eFn c.O) aNil))) (aCons (eApp (gIsE K (allE c)) (aCons (eVar 0) (aCons (eFn c.E) aNil))) aNil))))) (sSeq (sSet 2 (eLst (aCons (eApp (gIsE K (allE c)) (aCons (eVar 0) (aCons (eFn c.N) aNil))) (aCons (eApp (gIsE K (allE c)) (aCons (eVar 0) (aCons (eFn c.U) aNil))) (aCons (eApp (gIsE K (allE c)) (aCons (eVar 0) (aCons (eFn c.T) aNil))) aNil))))) (sRet (eTwo gAdd (eTwo gAdd (eVar 1) (eVar 2)) (eLst (aCons (eApp (gIsE K (allE c)) (aCons (eVar 0) (aCons (eFn c.B) aNil))) (aCons (eApp (gIsE K (allE c)) (aCons (eVar 0) (aCons (eFn c.D) aNil))) aNil)))))))))
def g__law_own_classes (K : Kf) (c : Er) : GA := defF 3 (f__law_own_classes K c)
/-! _law_other_classes -/
abbrev s__law_other_classes : Stmt := topS 19
abbrev N__law_other_classes : List Str := ["_law_error", "_law_first"]
theorem sc__law_other_classes : FnScope N__law_other_classes ["_law_error"] (defScope s__law_other_classes) := ⟨rfl, rfl, rfl, by decide +kernel, rfl, by decide +kernel, by decide +kernel⟩
def f__law_other_classes (K : Kf) (c : Er) : FS := (sSeq (sSet 1 (eLst (aCons (eApp (gIsE K (allE c)) (aCons (eVar 0) (aCons (eTy "ValueError") aNil))) (aCons (eApp (gIsE K (allE c)) (aCons (eVar 0) (aCons (eTy "LookupError") aNil))) (aCons (eApp (gIsE K (allE c)) (aCons (eVar 0) (aCons (eTy "IndexError") aNil))) aNil))))) (sSeq (sSet 1 (eTwo gAdd (eVar 1) (eLst (aCons (eApp (gIsE K (allE c)) (aCons (eVar 0) (aCons (eTy "KeyError") aNil))) (aCons (eApp (gIsE K (allE c)) (aCons (eVar 0) (aCons (eTy "ArithmeticError") aNil))) aNil))))) (sRet (eTwo gAdd (eVar 1) (eLst (aCons (eApp (gIsE K (allE c)) (aCons (eVar 0) (aCons (eTy "OverflowError") aNil))) (aCons (eApp (gIsE K (allE c)) (aCons (eVar 0) (aCons (eTy "ZeroDivisionError") aNil))) aNil)))))))
def g__law_other_classes (K : Kf) (c : Er) : GA := defF 2 (f__law_other_classes K c)
/-! _law_due_classes -/
abbrev s__law_due_classes : Stmt := topS 20
abbrev N__law_due_classes : List Str := ["_law_at", "_law_own", "_law_found", "_law_place"]
theorem sc__law_due_classes : FnScope N__law_due_classes ["_law_at"] (defScope s__law_due_classes) := ⟨rfl, rfl, rfl, by decide +kernel, rfl, by decide +kernel, by decide +kernel⟩
def f__law_due_classes : FS := (sSeq (sSet 1 (eTwo gAdd (eLst (aCons (eTwo gLt' (eVar 0) (eInt 8)) aNil)) (eLc (iRg2 (aCons (eInt 1) (aCons (eInt 13) aNil))) (gNm 3) [3] tTrue (eTwo gEq (eVar 3) (eVar 0))))) (sSeq (sSet 2 (eGet2 (eDis [(8, (eLst (aCons (eInt 1) (aCons (eInt 2) aNil)))), (9, (eLst (aCons (eInt 1) (aCons (eInt 3) aNil)))), (10, (eLst (aCons (eInt 4) (aCons (eInt 5) aNil)))), (11, (eLst (aCons (eInt 1) aNil))), (12, (eLst (aCons (eInt 4) aNil)))]) (eVar 0) (eLst (aCons (eInt 0) aNil)))) (sRet (eLst (aCons (eVar 1) (aCons (eLc (iRg1 (aCons (eInt 7) aNil)) (gNm 3) [3] tTrue (eTwo (gInS fun b => b) (eVar 3) (eVar 2))) aNil))))))
def g__law_due_classes : GA := defF 4 (f__law_due_classes)
theorem ok__law_due_classes {f : Addr} {fd : FuncData} (F : Fun K "_law_due_classes" "_law_due_classes" s__law_due_classes f fd) (T : Txt K mg) : FnG P w K mg base CX0 1 f fd ["_law_at"] (g__law_due_classes) :=
  fnG_of F sc__law_due_classes fun cdv A outer s H E hr hgd => by
    unfold f__law_due_classes
    exact (ds_cons (ds_set (ps_set (i := 1) sc__law_due_classes.nd rfl (by first | exact Or.inl rfl | exact Or.inr rfl) (de_two o_add (de_lst (da_cons (de_cmp o_lt (de_var (pv 0)) de_int (nomark _)) da_nil)) (de_lc rfl sc__law_due_classes.nd (di_range2 (by rfl) T.b_range (da_cons de_int (da_cons de_int da_nil))) (blkOk_by (own := [("_law_place", 3)]) (N := N__law_due_classes) (sc := defScope s__law_due_classes) (by decide +kernel)) (by rfl) (by decide) (fun _ _ _ _ _ => (dg_name (pg_name (i := 3) sc__law_due_classes.nd rfl (by first | exact Or.inl rfl | exact Or.inr rfl)))) (fun _ _ _ _ _ => dts_nil) (fun _ _ _ _ _ => (de_cmp (o_eq hr.units) (de_var (pv 3)) (de_var (pv 0)) (nomark _))))))) (ds_cons (ds_set (ps_set (i := 2) sc__law_due_classes.nd rfl (by first | exact Or.inl rfl | exact Or.inr rfl) (de_get2 hr.units (de_dis (.cons pe_int (de_lst (da_cons de_int (da_cons de_int da_nil))) (.cons pe_int (de_lst (da_cons de_int (da_cons de_int da_nil))) (.cons pe_int (de_lst (da_cons de_int (da_cons de_int da_nil))) (.cons pe_int (de_lst (da_cons de_int da_nil)) (.cons pe_int (de_lst (da_cons de_int da_nil)) .nil))))) (by simp) (by decide) (by decide)) (de_var (pv 0)) (de_lst (da_cons de_int da_nil))))) (ds_one (ds_ret (de_lst (da_cons (de_var (pv 1)) (da_cons (de_lc rfl sc__law_due_classes.nd (di_range1 (by rfl) T.b_range (da_cons de_int da_nil)) (blkOk_by (own := [("_law_place", 3)]) (N := N__law_due_classes) (sc := defScope s__law_due_classes) (by decide +kernel)) (by rfl) (by decide) (fun _ _ _ _ _ => (dg_name (pg_name (i := 3) sc__law_due_classes.nd rfl (by first | exact Or.inl rfl | exact Or.inr rfl)))) (fun _ _ _ _ _ => dts_nil) (fun _ _ _ _ _ => (de_cmp o_in (de_var (pv 3)) (de_var (pv 2)) (by rfl)))) da_nil)))))))
/-! _law_kept_by -/
abbrev s__law_kept_by : Stmt := topS 22
abbrev N__law_kept_by : List Str := ["_law_at", "_law_error"]
theorem sc__law_kept_by : FnScope N__law_kept_by ["_law_at", "_law_error"] (defScope s__law_kept_by) := ⟨rfl, rfl, rfl, by decide +kernel, rfl, by decide +kernel, by decide +kernel⟩
def f__law_kept_by (K : Kf) (c : Er) : FS := (sSeq (sIf (fB (eTwo gEq (eVar 0) (eInt 4))) (sRet (eLst (aCons (eExf c.R "index" (eVar 1)) aNil))) sNx) (sSeq (sIf (fB (eTwo gEq (eVar 0) (eInt 7))) (sRet (eLst (aCons (eExf c.E "line" (eVar 1)) aNil))) sNx) (sSeq (sIf (fB (eTwo gEq (eVar 0) (eInt 8))) (sRet (eLst (aCons (eExf c.N "value" (eVar 1)) aNil))) sNx) (sSeq (sIf (fB (eTwo gEq (eVar 0) (eInt 9))) (sRet (eLst (aCons (eExf c.U "name" (eVar 1)) aNil))) sNx) (sSeq (sIf (fB (eTwo gEq (eVar 0) (eInt 10))) (sRet (eLst (aCons (eExf c.T "limit" (eVar 1)) aNil))) sNx) (sSeq (sIf (fB (eTwo gEq (eVar 0) (eInt 11))) (sRet (eLst (aCons (eExf c.B "many" (eVar 1)) aNil))) sNx) (sRet (eIf (fB (eTwo gEq (eVar 0) (eInt 12))) (eLst (aCons (eExf c.D "place" (eVar 1)) aNil)) (eLst aNil)))))))))
def g__law_kept_by (K : Kf) (c : Er) : GA := defF 2 (f__law_kept_by K c)
/-! _law_pick -/
abbrev s__law_pick : Stmt := topS 17
abbrev N__law_pick : List Str := ["_law_stock_here", "_law_items"]
theorem sc__law_pick : FnScope N__law_pick ["_law_stock_here", "_law_items"] (defScope s__law_pick) := ⟨rfl, rfl, rfl, by decide +kernel, rfl, by decide +kernel, by decide +kernel⟩
def f__law_pick : FS := (sRet (eTwo gIx (eVar 1) (eCall (g__law_draw) [] 2 (aCons (eVar 0) (aCons (eApp gLen (aCons (eVar 1) aNil)) aNil)))))
def g__law_pick : GA := defF 2 (f__law_pick)
theorem ok__law_pick {f : Addr} {fd : FuncData} (F : Fun K "_law_pick" "_law_pick" s__law_pick f fd) (T : Txt K mg) (C__law_draw : CalG P w K mg base 1 "_law_draw" 2 (g__law_draw)) : FnG P w K mg base CX0 2 f fd ["_law_stock_here", "_law_items"] (g__law_pick) :=
  fnG_of F sc__law_pick fun cdv A outer s H E hr hgd => by
    unfold f__law_pick
    exact (ds_one (ds_ret (de_ix (de_var (pv 1)) (de_callN C__law_draw (hr.mono (by decide)) (GD A hgd) (by rfl) (da_cons (de_var (pv 0)) (da_cons (de_bi c_len (by rfl) T.b_len (by decide +kernel) (da_cons (de_var (pv 1)) da_nil)) da_nil))))))
/-! _law_error_of -/
abbrev s__law_error_of : Stmt := topS 21
abbrev N__law_error_of : List Str := ["_law_at", "_law_value", "_law_text"]
theorem sc__law_error_of : FnScope N__law_error_of ["_law_at", "_law_value", "_law_text"] (defScope s__law_error_of) := ⟨rfl, rfl, rfl, by decide +kernel, rfl, by decide +kernel, by decide +kernel⟩
def f__law_error_of (K : Kf) (c : Er) : FS := (sSeq (sIf (fB (eTwo gEq (eVar 0) (eInt 1))) (sRet (eExc0 c.W (eVar 2))) sNx) (sSeq (sIf (fB (eTwo gEq (eVar 0) (eInt 2))) (sRet (eExc0 c.M (eVar 2))) sNx) (sSeq (sIf (fB (eTwo gEq (eVar 0) (eInt 3))) (sRet (eExc0 c.P (eVar 2))) sNx) (sSeq (sIf (fB (eTwo gEq (eVar 0) (eInt 4))) (sRet (eApp (gExc1 c.R "index") (aCons (eVar 1) aNil))) sNx) (sSeq (sIf (fB (eTwo gEq (eVar 0) (eInt 5))) (sRet (eExc0 c.L (eVar 2))) sNx) (sSeq (sIf (fB (eTwo gEq (eVar 0) (eInt 6))) (sRet (eExc0 c.O (eVar 2))) sNx) (sSeq (sIf (fB (eTwo gEq (eVar 0) (eInt 7))) (sRet (eApp (gExc1 c.E "line") (aCons (eVar 1) aNil))) sNx) (sSeq (sIf (fB (eTwo gEq (eVar 0) (eInt 8))) (sRet (eApp (gExc1 c.N "value") (aCons (eVar 1) aNil))) sNx) (sSeq (sIf (fB (eTwo gEq (eVar 0) (eInt 9))) (sRet (eApp (gExc1 c.U "name") (aCons (eVar 1) aNil))) sNx) (sSeq (sIf (fB (eTwo gEq (eVar 0) (eInt 10))) (sRet (eApp (gExc1 c.T "limit") (aCons (eVar 1) aNil))) sNx) (sRet (eIf (fB (eTwo gEq (eVar 0) (eInt 11))) (eApp (gExc1 c.B "many") (aCons (eVar 1) aNil)) (eApp (gExc1 c.D "place") (aCons (eVar 1) aNil))))))))))))))
def g__law_error_of (K : Kf) (c : Er) : GA := defF 3 (f__law_error_of K c)
/-! _law_raise -/
abbrev s__law_raise : Stmt := topS 23
abbrev N__law_raise : List Str := ["_law_at", "_law_value", "_law_text"]
theorem sc__law_raise : FnScope N__law_raise ["_law_at", "_law_value", "_law_text"] (defScope s__law_raise) := ⟨rfl, rfl, rfl, by decide +kernel, rfl, by decide +kernel, by decide +kernel⟩
def f__law_raise (K : Kf) (c : Er) : FS := (sSeq (sIf (fB (eTwo gLt' (eVar 0) (eInt 4))) (sSeq (sIf (fB (eTwo gEq (eVar 0) (eInt 1))) (sRaise1 c.W (eVar 2)) sNx) (sSeq (sIf (fB (eTwo gEq (eVar 0) (eInt 2))) (sRaise1 c.M (eVar 2)) sNx) (sRaise1 c.P (eVar 2)))) sNx) (sSeq (sIf (fB (eTwo gEq (eVar 0) (eInt 4))) (sRaiseF c.R "index" (aCons (eVar 1) aNil)) sNx) (sSeq (sIf (fB (eTwo gEq (eVar 0) (eInt 5))) (sRaise1 c.L (eVar 2)) sNx) (sSeq (sIf (fB (eTwo gEq (eVar 0) (eInt 6))) (sRaise1 c.O (eVar 2)) sNx) (sSeq (sIf (fB (eTwo gEq (eVar 0) (eInt 7))) (sRaiseF c.E "line" (aCons (eVar 1) aNil)) sNx) (sSeq (sIf (fB (eTwo gEq (eVar 0) (eInt 8))) (sRaiseF c.N "value" (aCons (eVar 1) aNil)) sNx) (sSeq (sIf (fB (eTwo gEq (eVar 0) (eInt 9))) (sRaiseF c.U "name" (aCons (eVar 1) aNil)) sNx) (sSeq (sIf (fB (eTwo gEq (eVar 0) (eInt 10))) (sRaiseF c.T "limit" (aCons (eVar 1) aNil)) sNx) (sSeq (sIf (fB (eTwo gEq (eVar 0) (eInt 11))) (sRaiseF c.B "many" (aCons (eVar 1) aNil)) sNx) (sRaiseF c.D "place" (aCons (eVar 1) aNil)))))))))))
def g__law_raise (K : Kf) (c : Er) : GA := defX 3 (f__law_raise K c)
/-! _law_value_of -/
abbrev s__law_value_of : Stmt := topS 26
abbrev N__law_value_of : List Str := ["_law_stock_here", "_law_at", "_law_number", "_law_odd"]
theorem sc__law_value_of : FnScope N__law_value_of ["_law_stock_here", "_law_at"] (defScope s__law_value_of) := ⟨rfl, rfl, rfl, by decide +kernel, rfl, by decide +kernel, by decide +kernel⟩
def f__law_value_of : FS := (sSeq (sSet 2 (eCall (g__law_draw) [] 2 (aCons (eVar 0) (aCons (eTwo gPow (eInt 10) (eInt 30)) aNil)))) (sSeq (sSet 3 (eLst (aCons (eVar 2) (aCons (eTwo gSub (eInt 0) (eVar 2)) (aCons (eBool true) (aCons eNone (aCons (eStr "") (aCons (eStr "zz") (aCons (eTup aNil) (aCons (eTup (aCons (eInt 0) (aCons (eStr "a") aNil))) (aCons (eLst (aCons (eStr "a") aNil)) (aCons eD0 (aCons (eInt 0) aNil))))))))))))) (sRet (eIf (fB (eTwo (gInS fun b => b) (eVar 1) (eTup (aCons (eInt 8) (aCons (eInt 9) aNil))))) (eCall (g__law_pick) [] 2 (aCons (eVar 0) (aCons (eVar 3) aNil))) (eVar 2)))))
def g__law_value_of : GA := defF 4 (f__law_value_of)
theorem ok__law_value_of {f : Addr} {fd : FuncData} (F : Fun K "_law_value_of" "_law_value_of" s__law_value_of f fd) (T : Txt K mg) (C__law_draw : CalG P w K mg base 1 "_law_draw" 2 (g__law_draw)) (C__law_pick : CalG P w K mg base 2 "_law_pick" 2 (g__law_pick)) : FnG P w K mg base CX0 3 f fd ["_law_stock_here", "_law_at"] (g__law_value_of) :=
  fnG_of F sc__law_value_of fun cdv A outer s H E hr hgd => by
    unfold f__law_value_of
    exact (ds_cons (ds_set (ps_set (i := 2) sc__law_value_of.nd rfl (by first | exact Or.inl rfl | exact Or.inr rfl) (de_callN C__law_draw (hr.mono (by decide)) (GD A hgd) (by rfl) (da_cons (de_var (pv 0)) (da_cons (de_two o_pow de_int de_int) da_nil))))) (ds_cons (ds_set (ps_set (i := 3) sc__law_value_of.nd rfl (by first | exact Or.inl rfl | exact Or.inr rfl) (de_lst (da_cons (de_var (pv 2)) (da_cons (de_two o_sub de_int (de_var (pv 2))) (da_cons de_bl (da_cons de_non (da_cons de_str (da_cons de_str (da_cons (de_tup da_nil) (da_cons (de_tup (da_cons de_int (da_cons de_str da_nil))) (da_cons (de_lst (da_cons de_str da_nil)) (da_cons de_d0 (da_cons de_int da_nil)))))))))))))) (ds_one (ds_ret (de_ifx (dt_of o_in (de_var (pv 1)) (de_tup (da_cons de_int (da_cons de_int da_nil))) (by rfl)) (de_callN C__law_pick (hr.mono (by decide)) (GD A hgd) (by rfl) (da_cons (de_var (pv 0)) (da_cons (de_var (pv 3)) da_nil))) (de_var (pv 2)))))))
/-! _law_caught -/
abbrev s__law_caught : Stmt := topS 24
abbrev N__law_caught : List Str := ["_law_at", "_law_value", "_law_text", "_law_error"]
theorem sc__law_caught : FnScope N__law_caught ["_law_at", "_law_value", "_law_text"] (defScope s__law_caught) := ⟨rfl, rfl, rfl, by decide +kernel, rfl, by decide +kernel, by decide +kernel⟩
def f__law_caught (K : Kf) (c : Er) : FS := (sSeq (sTryC (g__law_raise K c) 3 (aCons (eVar 0) (aCons (eVar 1) (aCons (eVar 2) aNil))) [(some 3, (fun q => PySem.W.exmAny K q [.ref c.W, .ref c.M, .ref c.P]), hdIs3 K (allE c) c.W c.M 1 2 3), (some 3, (fun q => PySem.W.exmOne K q (.ref c.R)), hdRepr c.R "index" 4 (fun ds M => (gReprX ds M).noX)), (some 3, (fun q => PySem.W.exmAny K q [.ref c.L, .ref c.O]), hdIs2 K (allE c) c.L 5 6), (some 3, (fun q => PySem.W.exmOne K q (.ref c.E)), hdRepr c.E "line" 7 (fun ds M => (gReprX ds M).noX)), (some 3, (fun q => PySem.W.exmOne K q (.ref c.N)), hdRepr c.N "value" 8 (fun ds M => (gReprX ds M).noX)), (some 3, (fun q => PySem.W.exmOne K q (.ref c.U)), hdRepr c.U "name" 9 (fun ds M => (gReprX ds M).noX)), (some 3, (fun q => PySem.W.exmOne K q (.ref c.T)), hdRepr c.T "limit" 10 (fun ds M => (gReprX ds M).noX)), (some 3, (fun q => PySem.W.exmOne K q (.ref c.B)), hdRepr c.B "many" 11 (fun ds M => (gReprX ds M).noX)), (some 3, (fun q => PySem.W.exmOne K q (.ref c.D)), hdRepr c.D "place" 12 (fun ds M => (gReprX ds M).noX))]) (sRet (eLst (aCons (eInt 0) aNil))))
def g__law_caught (K : Kf) (c : Er) : GA := defF 4 (f__law_caught K c)
/-! _law_is_caught_above -/
abbrev s__law_is_caught_above : Stmt := topS 25
abbrev N__law_is_caught_above : List Str := ["_law_at", "_law_value", "_law_text"]
theorem sc__law_is_caught_above : FnScope N__law_is_caught_above ["_law_at", "_law_value", "_law_text"] (defScope s__law_is_caught_above) := ⟨rfl, rfl, rfl, by decide +kernel, rfl, by decide +kernel, by decide +kernel⟩
def f__law_is_caught_above (K : Kf) (c : Er) : FS := (sSeq (sTryC (g__law_raise K c) 3 (aCons (eVar 0) (aCons (eVar 1) (aCons (eVar 2) aNil))) [(none, (fun q => PySem.W.exmOne K q (.ref c.F)), fun _ => (eTwo gLt' (eVar 0) (eInt 8))), (none, (fun q => PySem.W.exmAny K q [.ref c.T, .ref c.B, .ref c.D, .ref c.N, .ref c.U]), fun _ => (eTwo gGt (eVar 0) (eInt 7)))]) (sRet (eBool false)))
def g__law_is_caught_above (K : Kf) (c : Er) : GA := defF 3 (f__law_is_caught_above K c)
/-! _law_cell_right -/
abbrev s__law_cell_right : Stmt := topS 27
abbrev N__law_cell_right : List Str := ["_law_stock_here", "_law_at", "_law_values", "_law_errors", "_law_spot", "_law_told", "_law_due", "_law_one"]
theorem sc__law_cell_right : FnScope N__law_cell_right ["_law_stock_here"] (defScope s__law_cell_right) := ⟨rfl, rfl, rfl, by decide +kernel, rfl, by decide +kernel, by decide +kernel⟩
def f__law_cell_right (K : Kf) (c : Er) : FS := (sSeq (sFor (iRg2 (aCons (eInt 1) (aCons (eInt 13) aNil))) (gNm 1) (sSeq (sSet 2 (eLst (aCons (eCall (g__law_value_of) [] 2 (aCons (eVar 0) (aCons (eVar 1) aNil))) (aCons (eCall (g__law_value_of) [] 2 (aCons (eVar 0) (aCons (eVar 1) aNil))) aNil)))) (sSeq (sSet 3 (eLst (aCons (eCall (g__law_error_of K c) [] 3 (aCons (eVar 1) (aCons (eTwo gIx (eVar 2) (eInt 0)) (aCons (eStr "one") aNil)))) (aCons (eCall (g__law_error_of K c) [] 3 (aCons (eVar 1) (aCons (eTwo gIx (eVar 2) (eInt 1)) (aCons (eStr "other") aNil)))) aNil)))) (sFor (iRg1 (aCons (eInt 2) aNil)) (gNm 4) (sSeq (sSet 5 (eLst (aCons (eCall (g__law_own_classes K c) [] 1 (aCons (eTwo gIx (eVar 3) (eVar 4)) aNil)) (aCons (eCall (g__law_other_classes K c) [] 1 (aCons (eTwo gIx (eVar 3) (eVar 4)) aNil)) aNil)))) (sSeq (sIf (fB (eTwo gNe (eApp gReprX (aCons (eVar 5) aNil)) (eApp gReprX (aCons (eCall (g__law_due_classes) [] 1 (aCons (eVar 1) aNil)) aNil)))) (sRet (eBool false)) sNx) (sSeq (sSet 6 (eIf (tOrF (fB (eTwo (gInS fun b => b) (eVar 1) (eTup (aCons (eInt 4) (aCons (eInt 7) aNil))))) (fB (eTwo gGt (eVar 1) (eInt 7)))) (eLst (aCons (eTwo gIx (eVar 2) (eVar 4)) aNil)) (eLst aNil))) (sSeq (sIf (fB (eTwo gNe (eApp gReprX (aCons (eCall (g__law_kept_by K c) [] 2 (aCons (eVar 1) (aCons (eTwo gIx (eVar 3) (eVar 4)) aNil))) aNil)) (eApp gReprX (aCons (eVar 6) aNil)))) (sRet (eBool false)) sNx) (sSeq (sIf (tAndF (fB (eTwo (gInS fun b => b) (eVar 1) (eTup (aCons (eInt 8) (aCons (eInt 9) aNil))))) (fB (eTwo gNe (eApp (gStr2 c.N (gStrF c.N "value") c.U (gStrF c.U "name")) (aCons (eTwo gIx (eVar 3) (eVar 4)) aNil)) (eApp gReprX (aCons (eTwo gIx (eVar 2) (eVar 4)) aNil))))) (sRet (eBool false)) sNx) (sSeq (sIf (fB (eTwo gNe (eCall (g__law_caught K c) [] 3 (aCons (eVar 1) (aCons (eTwo gIx (eVar 2) (eVar 4)) (aCons (eStr "some") aNil)))) (eTwo gAdd (eLst (aCons (eVar 1) aNil)) (eLc (iVal (eVar 6)) (gNm 7) [7] tTrue (eApp gReprX (aCons (eVar 7) aNil)))))) (sRet (eBool false)) sNx) (sIf (tNotF (fTru (eCall (g__law_is_caught_above K c) [] 3 (aCons (eVar 1) (aCons (eTwo gIx (eVar 2) (eVar 4)) (aCons (eStr "some") aNil)))))) (sRet (eBool false)) sNx))))))))))) (sRet (eBool true)))
def g__law_cell_right (K : Kf) (c : Er) : GA := defF 8 (f__law_cell_right K c)
/-! law -/
abbrev s_law : Stmt := topS 28
abbrev N_law : List Str := ["_law_script", "_law_at"]
theorem sc_law : FnScope N_law ["_law_script"] (defScope s_law) := ⟨rfl, rfl, rfl, by decide +kernel, rfl, by decide +kernel, by decide +kernel⟩
def f_law (K : Kf) (c : Er) : FS := (sSeq (sFor (iRg1 (aCons (eApp gMax (aCons (eInt 1) (aCons (eApp gMin (aCons (eInt 6) (aCons (eApp gLen (aCons (eVar 0) aNil)) aNil))) aNil))) aNil)) (gNm 1) (sIf (tNotF (fTru (eCall (g__law_cell_right K c) [] 1 (aCons (eCall (g__law_stock) [] 2 (aCons (eVar 0) (aCons (eVar 1) aNil))) aNil)))) (sRet (eBool false)) sNx)) (sRet (eBool true)))
def g_law (K : Kf) (c : Er) : GA := defF 2 (f_law K c)
end
end K01
namespace K01
open PySem PySem.Spec PyProof.Rows L2 Den
abbrev baseV : List Value := [.type "ValueError", .type "Exception", .type "BaseException", .type "object"]
abbrev baseI : List Value := [.type "IndexError", .type "LookupError", .type "Exception", .type "BaseException", .type "object"]
abbrev baseK : List Value := DenKey.mroK
abbrev baseL : List Value := [.type "LookupError", .type "Exception", .type "BaseException", .type "object"]
abbrev baseO : List Value := [.type "OverflowError", .type "ArithmeticError", .type "Exception", .type "BaseException", .type "object"]
abbrev baseA : List Value := [.type "ArithmeticError", .type "Exception", .type "BaseException", .type "object"]
theorem h3V : DenKey.Has3 baseV "ValueError" := ⟨by decide +kernel, by decide +kernel, by decide +kernel⟩
theorem h3I : DenKey.Has3 baseI "IndexError" := ⟨by decide +kernel, by decide +kernel, by decide +kernel⟩
theorem h3K : DenKey.Has3 baseK "LookupError" := ⟨by decide +kernel, by decide +kernel, by decide +kernel⟩
theorem h3L : DenKey.Has3 baseL "LookupError" := ⟨by decide +kernel, by decide +kernel, by decide +kernel⟩
theorem h3O : DenKey.Has3 baseO "OverflowError" := ⟨by decide +kernel, by decide +kernel, by decide +kernel⟩
theorem h3A : DenKey.Has3 baseA "ArithmeticError" := ⟨by decide +kernel, by decide +kernel, by decide +kernel⟩
/-- a class without an __init__ -/
structure PlC (K : Kf) (mg : Str → Option Value) (x : Str) (C : Addr) : Prop where
  g : mg x = some (.ref C)
  x : PySem.W.excIn K C baseV "ValueError.__new__" = true
  k : PySem.W.keepIn K (.ref C) = true
  b : PySem.W.subIn K (.ref C) (.type "BaseException") = some true
  t : PySem.W.typeIn K (.ref C) = some (.type "type")
/-- a class with an __init__ that keeps one field -/
structure FlC (K : Kf) (mg : Str → Option Value) (x : Str) (C fI : Addr) (bs : List Value) (nw : String) (f : Str) : Prop where
  g : mg x = some (.ref C)
  T : XG K C bs nw f
  i : PySem.W.findIn K (.ref C) "__init__" = some (some (.ref fI))
  j : PySem.W.typeIn K (.ref fI) = some (.type "function")
  X : XfC K C
structure Objs (K : Kf) (mg : Str → Option Value) (c : Er) (i : Ei) : Prop where
  gF : mg "FallError" = some (.ref c.F)
  W : PlC K mg "InvalidWord" c.W
  M : PlC K mg "InvalidMachine" c.M
  P : PlC K mg "InvalidProgram" c.P
  R : FlC K mg "InvalidRun" c.R i.R baseV "ValueError.__new__" "index"
  L : PlC K mg "InvalidLine" c.L
  O : PlC K mg "InvalidOperation" c.O
  E : FlC K mg "ParseError" c.E i.E baseV "ValueError.__new__" "line"
  N : FlC K mg "InvalidNumber" c.N i.N baseI "IndexError.__new__" "value"
  U : FlC K mg "UnknownName" c.U i.U baseK "LookupError.__new__" "name"
  T : FlC K mg "TooMany" c.T i.T baseO "OverflowError.__new__" "limit"
  B : FlC K mg "NothingToUndo" c.B i.B baseL "LookupError.__new__" "many"
  D : FlC K mg "Needed" c.D i.D baseA "ArithmeticError.__new__" "place"
  ec : ∀ C ∈ allE c, ExcC K C
def IniOk (P : Program) (w : World) (K : Kf) (mg : Str → Option Value) (base : Heap) (fI C : Addr) (v f : Str) : Prop := ∃ fd, FnOk P w K mg base (L2.CX P w) 1 fI fd ["self", v] (spIX C f) ∧ Binds K fd ["self", v] []
structure Inits (P : Program) (w : World) (K : Kf) (mg : Str → Option Value) (base : Heap) (c : Er) (i : Ei) : Prop where
  R : IniOk P w K mg base i.R c.R "index" "index"
  E : IniOk P w K mg base i.E c.E "line" "line"
  N : IniOk P w K mg base i.N c.N "value" "value"
  U : IniOk P w K mg base i.U c.U "name" "name"
  T : IniOk P w K mg base i.T c.T "limit" "limit"
  B : IniOk P w K mg base i.B c.B "many" "many"
  D : IniOk P w K mg base i.D c.D "place" "place"
structure Strs (P : Program) (w : World) (K : Kf) (mg : Str → Option Value) (base : Heap) (c : Er) : Prop where
  N : StrOf P w K mg base 1 c.N (gStrF c.N "value")
  U : StrOf P w K mg base 1 c.U (gStrF c.U "name")
section
variable {P : Program} {w : World} {K : Kf} {mg : Str → Option Value} {base : Heap} {c : Er} {i : Ei}
abbrev sI (n : Nat) : Stmt := inClass (topS n) 0
abbrev sS (n : Nat) : Stmt := inClass (topS n) 1
theorem scIR : FnScope ["self", "index"] ["self", "index"] (defScope (sI 5)) := ⟨rfl, rfl, rfl, by decide +kernel, rfl, by decide +kernel, by decide +kernel⟩
theorem scIE : FnScope ["self", "line"] ["self", "line"] (defScope (sI 8)) := ⟨rfl, rfl, rfl, by decide +kernel, rfl, by decide +kernel, by decide +kernel⟩
theorem scIN : FnScope ["self", "value"] ["self", "value"] (defScope (sI 9)) := ⟨rfl, rfl, rfl, by decide +kernel, rfl, by decide +kernel, by decide +kernel⟩
theorem scIU : FnScope ["self", "name"] ["self", "name"] (defScope (sI 10)) := ⟨rfl, rfl, rfl, by decide +kernel, rfl, by decide +kernel, by decide +kernel⟩
theorem scIT : FnScope ["self", "limit"] ["self", "limit"] (defScope (sI 11)) := ⟨rfl, rfl, rfl, by decide +kernel, rfl, by decide +kernel, by decide +kernel⟩
theorem scIB : FnScope ["self", "many"] ["self", "many"] (defScope (sI 12)) := ⟨rfl, rfl, rfl, by decide +kernel, rfl, by decide +kernel, by decide +kernel⟩
theorem scID : FnScope ["self", "place"] ["self", "place"] (defScope (sI 13)) := ⟨rfl, rfl, rfl, by decide +kernel, rfl, by decide +kernel, by decide +kernel⟩
theorem scSt (n : Nat) (h : n = 9 ∨ n = 10) : FnScope ["self"] ["self"] (defScope (sS n)) := by
  rcases h with rfl | rfl <;> exact ⟨rfl, rfl, rfl, by decide +kernel, rfl, by decide +kernel, by decide +kernel⟩
theorem ini_ok {n : Nat} {fI C : Addr} {fd : FuncData} {q v f : Str} {bs : List Value} {nw B : String} {p1 p2 p3 p4 : Pos} (F : Fun K "__init__" q (sI n) fI fd) (S : FnScope ["self", v] ["self", v] (defScope (sI n))) (hbd : defBody (sI n) = [.Assign [.Attribute (.Name "self" p1) f p2] (.Name v p3) p4]) (SF : StoreFacts B bs "object.__setattr__" "object") (T : XG K C bs nw f)
    (hsw : ∀ env : Env, swapsWith (.Name v p3) (some (.Attribute (.Name "self" p1) f p2)) p4.line env = pure false) (hb : Binds K fd ["self", v] []) (h1 : (v == ("__debug__" : Str)) = false) (h2 : (v == ("__classdict__" : Str)) = false) : IniOk P w K mg base fI C v f :=
  ⟨fd, fn_fieldInit F S rfl rfl hbd SF T hsw h1 h2, hb⟩
theorem str_ok {n : Nat} {f C : Addr} {fd : FuncData} {q fl : Str} {p1 p2 p3 p4 p5 : Pos} (F : Fun K "__str__" q (sS n) f fd) (S : FnScope ["self"] ["self"] (defScope (sS n))) (hbd : defBody (sS n) = [.Return (some (.Call (.Name "repr" p1) [.Attribute (.Name "self" p2) fl p3] [] p4)) p5]) (T : Txt K mg) (X : XfC K C) (no : PySem.W.findIn K (.ref C) fl = some none)
    (gl : (defScope (sS n)).names.lookup ("repr" : Str) = some .globalImplicit) (hf : PySem.W.findIn K (.ref C) "__str__" = some (some (.ref f))) (hi : PySem.W.isFn K (.ref f) = true) (hb : Binds K fd ["self"] []) : StrOf P w K mg base 1 C (gStrF C fl) := by
  refine ⟨f, fd, hf, hi, hb, fnG_of F S fun cdv A outer s H E hr hgd => ?_⟩
  rw [hbd]
  exact ds_one (ds_ret (de_bi (c_reprX (GD A hgd) hr.units) gl T.b_repr (by decide +kernel) (da_cons (de_exf (de_var (pe_var (i := 0) rfl ((S.par "self" (by simp)).elim (fun z => .inl z) (fun z => .inr (.inl z))))) X no) da_nil)))
theorem ok__law_own_classes {f : Addr} {fd : FuncData} (F : Fun K "_law_own_classes" "_law_own_classes" s__law_own_classes f fd) (T : Txt K mg) (O : Objs K mg c i) : FnG P w K mg base CX0 1 f fd ["_law_error"] (g__law_own_classes K c) :=
  fnG_of F sc__law_own_classes fun cdv A outer s H E hr hgd => by
    unfold f__law_own_classes
    exact (ds_cons (ds_set (ps_set (i := 1) sc__law_own_classes.nd rfl (by first | exact Or.inl rfl | exact Or.inr rfl) (de_lst (da_cons (de_bi (c_isE O.ec) (by rfl) T.b_isinstance (by decide +kernel) (da_cons (de_var (pv 0)) (da_cons (de_fn (by rfl) O.gF) da_nil))) (da_cons (de_bi (c_isE O.ec) (by rfl) T.b_isinstance (by decide +kernel) (da_cons (de_var (pv 0)) (da_cons (de_fn (by rfl) O.W.g) da_nil))) (da_cons (de_bi (c_isE O.ec) (by rfl) T.b_isinstance (by decide +kernel) (da_cons (de_var (pv 0)) (da_cons (de_fn (by rfl) O.M.g) da_nil))) da_nil)))))) (ds_cons (ds_set (ps_set (i := 1) sc__law_own_classes.nd rfl (by first | exact Or.inl rfl | exact Or.inr rfl) (de_two o_add (de_var (pv 1)) (de_lst (da_cons (de_bi (c_isE O.ec) (by rfl) T.b_isinstance (by decide +kernel) (da_cons (de_var (pv 0)) (da_cons (de_fn (by rfl) O.P.g) da_nil))) (da_cons (de_bi (c_isE O.ec) (by rfl) T.b_isinstance (by decide +kernel) (da_cons (de_var (pv 0)) (da_cons (de_fn (by rfl) O.R.g) da_nil))) (da_cons (de_bi (c_isE O.ec) (by rfl) T.b_isinstance (by decide +kernel) (da_cons (de_var (pv 0)) (da_cons (de_fn (by rfl) O.L.g) da_nil))) da_nil))))))) (ds_cons (ds_set (ps_set (i := 1) sc__law_own_classes.nd rfl (by first | exact Or.inl rfl | exact Or.inr rfl) (de_two o_add (de_var (pv 1)) (de_lst (da_cons (de_bi (c_isE O.ec) (by rfl) T.b_isinstance (by decide +kernel) (da_cons (de_var (pv 0)) (da_cons (de_fn (by rfl) O.O.g) da_nil))) (da_cons (de_bi (c_isE O.ec) (by rfl) T.b_isinstance (by decide +kernel) (da_cons (de_var (pv 0)) (da_cons (de_fn (by rfl) O.E.g) da_nil))) da_nil)))))) (ds_cons (ds_set (ps_set (i := 2) sc__law_own_classes.nd rfl (by first | exact Or.inl rfl | exact Or.inr rfl) (de_lst (da_cons (de_bi (c_isE O.ec) (by rfl) T.b_isinstance (by decide +kernel) (da_cons (de_var (pv 0)) (da_cons (de_fn (by rfl) O.N.g) da_nil))) (da_cons (de_bi (c_isE O.ec) (by rfl) T.b_isinstance (by decide +kernel) (da_cons (de_var (pv 0)) (da_cons (de_fn (by rfl) O.U.g) da_nil))) (da_cons (de_bi (c_isE O.ec) (by rfl) T.b_isinstance (by decide +kernel) (da_cons (de_var (pv 0)) (da_cons (de_fn (by rfl) O.T.g) da_nil))) da_nil)))))) (ds_one (ds_ret (de_two o_add (de_two o_add (de_var (pv 1)) (de_var (pv 2))) (de_lst (da_cons (de_bi (c_isE O.ec) (by rfl) T.b_isinstance (by decide +kernel) (da_cons (de_var (pv 0)) (da_cons (de_fn (by rfl) O.B.g) da_nil))) (da_cons (de_bi (c_isE O.ec) (by rfl) T.b_isinstance (by decide +kernel) (da_cons (de_var (pv 0)) (da_cons (de_fn (by rfl) O.D.g) da_nil))) da_nil))))))))))
theorem ok__law_other_classes {f : Addr} {fd : FuncData} (F : Fun K "_law_other_classes" "_law_other_classes" s__law_other_classes f fd) (T : Txt K mg) (O : Objs K mg c i) : FnG P w K mg base CX0 1 f fd ["_law_error"] (g__law_other_classes K c) :=
  fnG_of F sc__law_other_classes fun cdv A outer s H E hr hgd => by
    unfold f__law_other_classes
    exact (ds_cons (ds_set (ps_set (i := 1) sc__law_other_classes.nd rfl (by first | exact Or.inl rfl | exact Or.inr rfl) (de_lst (da_cons (de_bi (c_isE O.ec) (by rfl) T.b_isinstance (by decide +kernel) (da_cons (de_var (pv 0)) (da_cons (de_ty (by rfl) T.b_ValueError (by decide +kernel)) da_nil))) (da_cons (de_bi (c_isE O.ec) (by rfl) T.b_isinstance (by decide +kernel) (da_cons (de_var (pv 0)) (da_cons (de_ty (by rfl) T.b_LookupError (by decide +kernel)) da_nil))) (da_cons (de_bi (c_isE O.ec) (by rfl) T.b_isinstance (by decide +kernel) (da_cons (de_var (pv 0)) (da_cons (de_ty (by rfl) T.b_IndexError (by decide +kernel)) da_nil))) da_nil)))))) (ds_cons (ds_set (ps_set (i := 1) sc__law_other_classes.nd rfl (by first | exact Or.inl rfl | exact Or.inr rfl) (de_two o_add (de_var (pv 1)) (de_lst (da_cons (de_bi (c_isE O.ec) (by rfl) T.b_isinstance (by decide +kernel) (da_cons (de_var (pv 0)) (da_cons (de_ty (by rfl) T.b_KeyError (by decide +kernel)) da_nil))) (da_cons (de_bi (c_isE O.ec) (by rfl) T.b_isinstance (by decide +kernel) (da_cons (de_var (pv 0)) (da_cons (de_ty (by rfl) T.b_ArithmeticError (by decide +kernel)) da_nil))) da_nil)))))) (ds_one (ds_ret (de_two o_add (de_var (pv 1)) (de_lst (da_cons (de_bi (c_isE O.ec) (by rfl) T.b_isinstance (by decide +kernel) (da_cons (de_var (pv 0)) (da_cons (de_ty (by rfl) T.b_OverflowError (by decide +kernel)) da_nil))) (da_cons (de_bi (c_isE O.ec) (by rfl) T.b_isinstance (by decide +kernel) (da_cons (de_var (pv 0)) (da_cons (de_ty (by rfl) T.b_ZeroDivisionError (by decide +kernel)) da_nil))) da_nil))))))))
theorem ok__law_kept_by {f : Addr} {fd : FuncData} (F : Fun K "_law_kept_by" "_law_kept_by" s__law_kept_by f fd) (T : Txt K mg) (O : Objs K mg c i) : FnG P w K mg base CX0 1 f fd ["_law_at", "_law_error"] (g__law_kept_by K c) :=
  fnG_of F sc__law_kept_by fun cdv A outer s H E hr hgd => by
    unfold f__law_kept_by
    exact (ds_cons (ds_if (dt_of (o_eq hr.units) (de_var (pv 0)) de_int (nomark _)) (ds_one (ds_ret (de_lst (da_cons (de_exf (de_var (pv 1)) O.R.X O.R.T.no) da_nil)))) ds_nil) (ds_cons (ds_if (dt_of (o_eq hr.units) (de_var (pv 0)) de_int (nomark _)) (ds_one (ds_ret (de_lst (da_cons (de_exf (de_var (pv 1)) O.E.X O.E.T.no) da_nil)))) ds_nil) (ds_cons (ds_if (dt_of (o_eq hr.units) (de_var (pv 0)) de_int (nomark _)) (ds_one (ds_ret (de_lst (da_cons (de_exf (de_var (pv 1)) O.N.X O.N.T.no) da_nil)))) ds_nil) (ds_cons (ds_if (dt_of (o_eq hr.units) (de_var (pv 0)) de_int (nomark _)) (ds_one (ds_ret (de_lst (da_cons (de_exf (de_var (pv 1)) O.U.X O.U.T.no) da_nil)))) ds_nil) (ds_cons (ds_if (dt_of (o_eq hr.units) (de_var (pv 0)) de_int (nomark _)) (ds_one (ds_ret (de_lst (da_cons (de_exf (de_var (pv 1)) O.T.X O.T.T.no) da_nil)))) ds_nil) (ds_cons (ds_if (dt_of (o_eq hr.units) (de_var (pv 0)) de_int (nomark _)) (ds_one (ds_ret (de_lst (da_cons (de_exf (de_var (pv 1)) O.B.X O.B.T.no) da_nil)))) ds_nil) (ds_one (ds_ret (de_ifx (dt_of (o_eq hr.units) (de_var (pv 0)) de_int (nomark _)) (de_lst (da_cons (de_exf (de_var (pv 1)) O.D.X O.D.T.no) da_nil)) (de_lst da_nil))))))))))
theorem ok__law_error_of {f : Addr} {fd : FuncData} (F : Fun K "_law_error_of" "_law_error_of" s__law_error_of f fd) (T : Txt K mg) (O : Objs K mg c i) (GE : Inits P w K mg base c i) : FnG P w K mg base CX0 3 f fd ["_law_at", "_law_value", "_law_text"] (g__law_error_of K c) :=
  fnG_of F sc__law_error_of fun cdv A outer s H E hr hgd => by
    unfold f__law_error_of
    exact (ds_cons (ds_if (dt_of (o_eq hr.units) (de_var (pv 0)) de_int (nomark _)) (ds_one (ds_ret (de_exc0 PySem.F.excBase_ValueError O.W.x O.W.g O.W.k (by rfl) (de_var (pv 2))))) ds_nil) (ds_cons (ds_if (dt_of (o_eq hr.units) (de_var (pv 0)) de_int (nomark _)) (ds_one (ds_ret (de_exc0 PySem.F.excBase_ValueError O.M.x O.M.g O.M.k (by rfl) (de_var (pv 2))))) ds_nil) (ds_cons (ds_if (dt_of (o_eq hr.units) (de_var (pv 0)) de_int (nomark _)) (ds_one (ds_ret (de_exc0 PySem.F.excBase_ValueError O.P.x O.P.g O.P.k (by rfl) (de_var (pv 2))))) ds_nil) (ds_cons (ds_if (dt_of (o_eq hr.units) (de_var (pv 0)) de_int (nomark _)) (ds_one (ds_ret (de_exc1 PySem.F.excBase_ValueError h3V O.R.T O.R.i O.R.j GE.R.choose_spec.1 (hr.mono (by decide)) GE.R.choose_spec.2 passL (by rfl) O.R.g (da_cons (de_var (pv 1)) da_nil)))) ds_nil) (ds_cons (ds_if (dt_of (o_eq hr.units) (de_var (pv 0)) de_int (nomark _)) (ds_one (ds_ret (de_exc0 PySem.F.excBase_ValueError O.L.x O.L.g O.L.k (by rfl) (de_var (pv 2))))) ds_nil) (ds_cons (ds_if (dt_of (o_eq hr.units) (de_var (pv 0)) de_int (nomark _)) (ds_one (ds_ret (de_exc0 PySem.F.excBase_ValueError O.O.x O.O.g O.O.k (by rfl) (de_var (pv 2))))) ds_nil) (ds_cons (ds_if (dt_of (o_eq hr.units) (de_var (pv 0)) de_int (nomark _)) (ds_one (ds_ret (de_exc1 PySem.F.excBase_ValueError h3V O.E.T O.E.i O.E.j GE.E.choose_spec.1 (hr.mono (by decide)) GE.E.choose_spec.2 passL (by rfl) O.E.g (da_cons (de_var (pv 1)) da_nil)))) ds_nil) (ds_cons (ds_if (dt_of (o_eq hr.units) (de_var (pv 0)) de_int (nomark _)) (ds_one (ds_ret (de_exc1 PySem.F.excBase_IndexError h3I O.N.T O.N.i O.N.j GE.N.choose_spec.1 (hr.mono (by decide)) GE.N.choose_spec.2 passL (by rfl) O.N.g (da_cons (de_var (pv 1)) da_nil)))) ds_nil) (ds_cons (ds_if (dt_of (o_eq hr.units) (de_var (pv 0)) de_int (nomark _)) (ds_one (ds_ret (de_exc1 PySem.F.excBase_LookupError h3K O.U.T O.U.i O.U.j GE.U.choose_spec.1 (hr.mono (by decide)) GE.U.choose_spec.2 passL (by rfl) O.U.g (da_cons (de_var (pv 1)) da_nil)))) ds_nil) (ds_cons (ds_if (dt_of (o_eq hr.units) (de_var (pv 0)) de_int (nomark _)) (ds_one (ds_ret (de_exc1 PySem.F.excBase_OverflowError h3O O.T.T O.T.i O.T.j GE.T.choose_spec.1 (hr.mono (by decide)) GE.T.choose_spec.2 passL (by rfl) O.T.g (da_cons (de_var (pv 1)) da_nil)))) ds_nil) (ds_one (ds_ret (de_ifx (dt_of (o_eq hr.units) (de_var (pv 0)) de_int (nomark _)) (de_exc1 PySem.F.excBase_LookupError h3L O.B.T O.B.i O.B.j GE.B.choose_spec.1 (hr.mono (by decide)) GE.B.choose_spec.2 passL (by rfl) O.B.g (da_cons (de_var (pv 1)) da_nil)) (de_exc1 PySem.F.excBase_ArithmeticError h3A O.D.T O.D.i O.D.j GE.D.choose_spec.1 (hr.mono (by decide)) GE.D.choose_spec.2 passL (by rfl) O.D.g (da_cons (de_var (pv 1)) da_nil)))))))))))))))
theorem ok__law_raise {f : Addr} {fd : FuncData} (F : Fun K "_law_raise" "_law_raise" s__law_raise f fd) (T : Txt K mg) (O : Objs K mg c i) (GE : Inits P w K mg base c i) : FnOk P w K mg base (L2.CX P w) 3 f fd ["_law_at", "_law_value", "_law_text"] (spD K 3 (g__law_raise K c)) :=
  fnX_of F sc__law_raise fun cdv A outer s H E hr hx => by
    unfold f__law_raise
    exact (ds_cons (ds_if (dt_of o_lt (de_var (pv 0)) de_int (nomark _)) (ds_cons (ds_if (dt_of (o_eq hr.units) (de_var (pv 0)) de_int (nomark _)) (ds_one (ds_raise1 (ps_raise rfl (takes_of rfl rfl rfl rfl) (SkE.pmk_own1 PySem.F.excBase_ValueError O.W.x O.W.g O.W.k (raises_own O.W.b O.W.t) (by rfl) (de_var (pv 2)))))) ds_nil) (ds_cons (ds_if (dt_of (o_eq hr.units) (de_var (pv 0)) de_int (nomark _)) (ds_one (ds_raise1 (ps_raise rfl (takes_of rfl rfl rfl rfl) (SkE.pmk_own1 PySem.F.excBase_ValueError O.M.x O.M.g O.M.k (raises_own O.M.b O.M.t) (by rfl) (de_var (pv 2)))))) ds_nil) (ds_one (ds_raise1 (ps_raise rfl (takes_of rfl rfl rfl rfl) (SkE.pmk_own1 PySem.F.excBase_ValueError O.P.x O.P.g O.P.k (raises_own O.P.b O.P.t) (by rfl) (de_var (pv 2)))))))) ds_nil) (ds_cons (ds_if (dt_of (o_eq hr.units) (de_var (pv 0)) de_int (nomark _)) (ds_one (ds_raiseF (ps_raise rfl (takes_of rfl rfl rfl rfl) (pmk_fieldT PySem.F.excBase_ValueError h3V O.R.T O.R.i O.R.j GE.R.choose_spec.1 (hr.mono (by decide)) GE.R.choose_spec.2 passL (by rfl) O.R.g (da_cons (de_var (pv 1)) da_nil))))) ds_nil) (ds_cons (ds_if (dt_of (o_eq hr.units) (de_var (pv 0)) de_int (nomark _)) (ds_one (ds_raise1 (ps_raise rfl (takes_of rfl rfl rfl rfl) (SkE.pmk_own1 PySem.F.excBase_ValueError O.L.x O.L.g O.L.k (raises_own O.L.b O.L.t) (by rfl) (de_var (pv 2)))))) ds_nil) (ds_cons (ds_if (dt_of (o_eq hr.units) (de_var (pv 0)) de_int (nomark _)) (ds_one (ds_raise1 (ps_raise rfl (takes_of rfl rfl rfl rfl) (SkE.pmk_own1 PySem.F.excBase_ValueError O.O.x O.O.g O.O.k (raises_own O.O.b O.O.t) (by rfl) (de_var (pv 2)))))) ds_nil) (ds_cons (ds_if (dt_of (o_eq hr.units) (de_var (pv 0)) de_int (nomark _)) (ds_one (ds_raiseF (ps_raise rfl (takes_of rfl rfl rfl rfl) (pmk_fieldT PySem.F.excBase_ValueError h3V O.E.T O.E.i O.E.j GE.E.choose_spec.1 (hr.mono (by decide)) GE.E.choose_spec.2 passL (by rfl) O.E.g (da_cons (de_var (pv 1)) da_nil))))) ds_nil) (ds_cons (ds_if (dt_of (o_eq hr.units) (de_var (pv 0)) de_int (nomark _)) (ds_one (ds_raiseF (ps_raise rfl (takes_of rfl rfl rfl rfl) (pmk_fieldT PySem.F.excBase_IndexError h3I O.N.T O.N.i O.N.j GE.N.choose_spec.1 (hr.mono (by decide)) GE.N.choose_spec.2 passL (by rfl) O.N.g (da_cons (de_var (pv 1)) da_nil))))) ds_nil) (ds_cons (ds_if (dt_of (o_eq hr.units) (de_var (pv 0)) de_int (nomark _)) (ds_one (ds_raiseF (ps_raise rfl (takes_of rfl rfl rfl rfl) (pmk_fieldT PySem.F.excBase_LookupError h3K O.U.T O.U.i O.U.j GE.U.choose_spec.1 (hr.mono (by decide)) GE.U.choose_spec.2 passL (by rfl) O.U.g (da_cons (de_var (pv 1)) da_nil))))) ds_nil) (ds_cons (ds_if (dt_of (o_eq hr.units) (de_var (pv 0)) de_int (nomark _)) (ds_one (ds_raiseF (ps_raise rfl (takes_of rfl rfl rfl rfl) (pmk_fieldT PySem.F.excBase_OverflowError h3O O.T.T O.T.i O.T.j GE.T.choose_spec.1 (hr.mono (by decide)) GE.T.choose_spec.2 passL (by rfl) O.T.g (da_cons (de_var (pv 1)) da_nil))))) ds_nil) (ds_cons (ds_if (dt_of (o_eq hr.units) (de_var (pv 0)) de_int (nomark _)) (ds_one (ds_raiseF (ps_raise rfl (takes_of rfl rfl rfl rfl) (pmk_fieldT PySem.F.excBase_LookupError h3L O.B.T O.B.i O.B.j GE.B.choose_spec.1 (hr.mono (by decide)) GE.B.choose_spec.2 passL (by rfl) O.B.g (da_cons (de_var (pv 1)) da_nil))))) ds_nil) (ds_one (ds_raiseF (ps_raise rfl (takes_of rfl rfl rfl rfl) (pmk_fieldT PySem.F.excBase_ArithmeticError h3A O.D.T O.D.i O.D.j GE.D.choose_spec.1 (hr.mono (by decide)) GE.D.choose_spec.2 passL (by rfl) O.D.g (da_cons (de_var (pv 1)) da_nil))))))))))))))
theorem ok__law_caught {f : Addr} {fd : FuncData} (F : Fun K "_law_caught" "_law_caught" s__law_caught f fd) (T : Txt K mg) (O : Objs K mg c i) (C__law_raise : CalX P w K mg base 3 "_law_raise" 3 (g__law_raise K c)) : FnG P w K mg base CX0 4 f fd ["_law_at", "_law_value", "_law_text"] (g__law_caught K c) :=
  fnG_of F sc__law_caught fun cdv A outer s H E hr hgd => by
    unfold f__law_caught
    exact (ds_cons (ds_tryC C__law_raise (hr.mono (by decide)) (by rfl) rfl rfl sc__law_caught.nd (fun pn xe => (da_cons (de_var (pv 0)) (da_cons (de_var (pv 1)) (da_cons (de_var (pv 2)) da_nil)))) (.named (tst_tup (.cons ⟨by rfl, by decide, .inl O.W.g⟩ rfl (.cons ⟨by rfl, by decide, .inl O.M.g⟩ rfl (.cons ⟨by rfl, by decide, .inl O.P.g⟩ rfl .nil))) (by simp)) rfl rfl (fun a oe q d pn hz hf => su_is3 rfl (.inl rfl) O.ec hz hf (by rfl) T.b_isinstance (by rfl) O.W.g (by rfl) O.M.g) (.named (tst_name ⟨by rfl, by decide, .inl O.R.g⟩) rfl rfl (fun a oe q d pn hz hf => su_repr rfl (.inl rfl) O.R.X O.R.T.no hz hf (c_reprX hgd hr.units) (by rfl) T.b_repr) (.named (tst_tup (.cons ⟨by rfl, by decide, .inl O.L.g⟩ rfl (.cons ⟨by rfl, by decide, .inl O.O.g⟩ rfl .nil)) (by simp)) rfl rfl (fun a oe q d pn hz hf => su_is2 rfl (.inl rfl) O.ec hz hf (by rfl) T.b_isinstance (by rfl) O.L.g) (.named (tst_name ⟨by rfl, by decide, .inl O.E.g⟩) rfl rfl (fun a oe q d pn hz hf => su_repr rfl (.inl rfl) O.E.X O.E.T.no hz hf (c_reprX hgd hr.units) (by rfl) T.b_repr) (.named (tst_name ⟨by rfl, by decide, .inl O.N.g⟩) rfl rfl (fun a oe q d pn hz hf => su_repr rfl (.inl rfl) O.N.X O.N.T.no hz hf (c_reprX hgd hr.units) (by rfl) T.b_repr) (.named (tst_name ⟨by rfl, by decide, .inl O.U.g⟩) rfl rfl (fun a oe q d pn hz hf => su_repr rfl (.inl rfl) O.U.X O.U.T.no hz hf (c_reprX hgd hr.units) (by rfl) T.b_repr) (.named (tst_name ⟨by rfl, by decide, .inl O.T.g⟩) rfl rfl (fun a oe q d pn hz hf => su_repr rfl (.inl rfl) O.T.X O.T.T.no hz hf (c_reprX hgd hr.units) (by rfl) T.b_repr) (.named (tst_name ⟨by rfl, by decide, .inl O.B.g⟩) rfl rfl (fun a oe q d pn hz hf => su_repr rfl (.inl rfl) O.B.X O.B.T.no hz hf (c_reprX hgd hr.units) (by rfl) T.b_repr) (.named (tst_name ⟨by rfl, by decide, .inl O.D.g⟩) rfl rfl (fun a oe q d pn hz hf => su_repr rfl (.inl rfl) O.D.X O.D.T.no hz hf (c_reprX hgd hr.units) (by rfl) T.b_repr) .nil))))))))) (fun _ => rfl)) (ds_one (ds_ret (de_lst (da_cons de_int da_nil)))))
theorem ok__law_is_caught_above {f : Addr} {fd : FuncData} (F : Fun K "_law_is_caught_above" "_law_is_caught_above" s__law_is_caught_above f fd) (T : Txt K mg) (O : Objs K mg c i) (C__law_raise : CalX P w K mg base 3 "_law_raise" 3 (g__law_raise K c)) : FnG P w K mg base CX0 4 f fd ["_law_at", "_law_value", "_law_text"] (g__law_is_caught_above K c) :=
  fnG_of F sc__law_is_caught_above fun cdv A outer s H E hr hgd => by
    unfold f__law_is_caught_above
    exact (ds_cons (ds_tryC C__law_raise (hr.mono (by decide)) (by rfl) rfl rfl sc__law_is_caught_above.nd (fun pn xe => (da_cons (de_var (pv 0)) (da_cons (de_var (pv 1)) (da_cons (de_var (pv 2)) da_nil)))) (.one (tst_name ⟨by rfl, by decide, .inl O.gF⟩) (fun a oe q d pn hz hf => su_ret (de_cmp o_lt (de_var (pv 0)) de_int (nomark _))) (.one (tst_tup (.cons ⟨by rfl, by decide, .inl O.T.g⟩ rfl (.cons ⟨by rfl, by decide, .inl O.B.g⟩ rfl (.cons ⟨by rfl, by decide, .inl O.D.g⟩ rfl (.cons ⟨by rfl, by decide, .inl O.N.g⟩ rfl (.cons ⟨by rfl, by decide, .inl O.U.g⟩ rfl .nil))))) (by simp)) (fun a oe q d pn hz hf => su_ret (de_cmp o_gt (de_var (pv 0)) de_int (nomark _))) .nil)) (fun _ => rfl)) (ds_one (ds_ret de_bl)))
theorem ok__law_cell_right {f : Addr} {fd : FuncData} (F : Fun K "_law_cell_right" "_law_cell_right" s__law_cell_right f fd) (T : Txt K mg) (O : Objs K mg c i) (SE : Strs P w K mg base c) (C__law_caught : CalG P w K mg base 4 "_law_caught" 3 (g__law_caught K c)) (C__law_due_classes : CalG P w K mg base 1 "_law_due_classes" 1 (g__law_due_classes)) (C__law_error_of : CalG P w K mg base 3 "_law_error_of" 3 (g__law_error_of K c)) (C__law_is_caught_above : CalG P w K mg base 4 "_law_is_caught_above" 3 (g__law_is_caught_above K c)) (C__law_kept_by : CalG P w K mg base 1 "_law_kept_by" 2 (g__law_kept_by K c)) (C__law_other_classes : CalG P w K mg base 1 "_law_other_classes" 1 (g__law_other_classes K c)) (C__law_own_classes : CalG P w K mg base 1 "_law_own_classes" 1 (g__law_own_classes K c)) (C__law_value_of : CalG P w K mg base 3 "_law_value_of" 2 (g__law_value_of)) : FnG P w K mg base CX0 6 f fd ["_law_stock_here"] (g__law_cell_right K c) :=
  fnG_of F sc__law_cell_right fun cdv A outer s H E hr hgd => by
    unfold f__law_cell_right
    exact (ds_cons (ds_for PassesOwn.never rfl (di_range2 (by rfl) T.b_range (da_cons de_int (da_cons de_int da_nil))) (dg_name (pg_name (i := 1) sc__law_cell_right.nd rfl (by first | exact Or.inl rfl | exact Or.inr rfl))) (ds_cons (ds_set (ps_set (i := 2) sc__law_cell_right.nd rfl (by first | exact Or.inl rfl | exact Or.inr rfl) (de_lst (da_cons (de_callN C__law_value_of (hr.mono (by decide)) (GD A hgd) (by rfl) (da_cons (de_var (pv 0)) (da_cons (de_var (pv 1)) da_nil))) (da_cons (de_callN C__law_value_of (hr.mono (by decide)) (GD A hgd) (by rfl) (da_cons (de_var (pv 0)) (da_cons (de_var (pv 1)) da_nil))) da_nil))))) (ds_cons (ds_set (ps_set (i := 3) sc__law_cell_right.nd rfl (by first | exact Or.inl rfl | exact Or.inr rfl) (de_lst (da_cons (de_callN C__law_error_of (hr.mono (by decide)) (GD A hgd) (by rfl) (da_cons (de_var (pv 1)) (da_cons (de_ix (de_var (pv 2)) de_int) (da_cons de_str da_nil)))) (da_cons (de_callN C__law_error_of (hr.mono (by decide)) (GD A hgd) (by rfl) (da_cons (de_var (pv 1)) (da_cons (de_ix (de_var (pv 2)) de_int) (da_cons de_str da_nil)))) da_nil))))) (ds_one (ds_for PassesOwn.never rfl (di_range1 (by rfl) T.b_range (da_cons de_int da_nil)) (dg_name (pg_name (i := 4) sc__law_cell_right.nd rfl (by first | exact Or.inl rfl | exact Or.inr rfl))) (ds_cons (ds_set (ps_set (i := 5) sc__law_cell_right.nd rfl (by first | exact Or.inl rfl | exact Or.inr rfl) (de_lst (da_cons (de_callN C__law_own_classes (hr.mono (by decide)) (GD A hgd) (by rfl) (da_cons (de_ix (de_var (pv 3)) (de_var (pv 4))) da_nil)) (da_cons (de_callN C__law_other_classes (hr.mono (by decide)) (GD A hgd) (by rfl) (da_cons (de_ix (de_var (pv 3)) (de_var (pv 4))) da_nil)) da_nil))))) (ds_cons (ds_if (dt_of (o_ne hr.units) (de_bi (c_reprX (GD A hgd) hr.units) (by rfl) T.b_repr (by decide +kernel) (da_cons (de_var (pv 5)) da_nil)) (de_bi (c_reprX (GD A hgd) hr.units) (by rfl) T.b_repr (by decide +kernel) (da_cons (de_callN C__law_due_classes (hr.mono (by decide)) (GD A hgd) (by rfl) (da_cons (de_var (pv 1)) da_nil)) da_nil)) (nomark _)) (ds_one (ds_ret de_bl)) ds_nil) (ds_cons (ds_set (ps_set (i := 6) sc__law_cell_right.nd rfl (by first | exact Or.inl rfl | exact Or.inr rfl) (de_ifx (dt_w (dw_or (dt_of o_in (de_var (pv 1)) (de_tup (da_cons de_int (da_cons de_int da_nil))) (by rfl)) (dw_or1 (dt_of o_gt (de_var (pv 1)) de_int (nomark _))))) (de_lst (da_cons (de_ix (de_var (pv 2)) (de_var (pv 4))) da_nil)) (de_lst da_nil)))) (ds_cons (ds_if (dt_of (o_ne hr.units) (de_bi (c_reprX (GD A hgd) hr.units) (by rfl) T.b_repr (by decide +kernel) (da_cons (de_callN C__law_kept_by (hr.mono (by decide)) (GD A hgd) (by rfl) (da_cons (de_var (pv 1)) (da_cons (de_ix (de_var (pv 3)) (de_var (pv 4))) da_nil))) da_nil)) (de_bi (c_reprX (GD A hgd) hr.units) (by rfl) T.b_repr (by decide +kernel) (da_cons (de_var (pv 6)) da_nil)) (nomark _)) (ds_one (ds_ret de_bl)) ds_nil) (ds_cons (ds_if (dt_w (dw_and (dt_of o_in (de_var (pv 1)) (de_tup (da_cons de_int (da_cons de_int da_nil))) (by rfl)) (dw_and1 (dt_of (o_ne hr.units) (de_bt (c_str2 SE.N SE.U (hr.mono (by decide)) (GD A hgd)) (by rfl) T.b_str (by decide +kernel) (da_cons (de_ix (de_var (pv 3)) (de_var (pv 4))) da_nil)) (de_bi (c_reprX (GD A hgd) hr.units) (by rfl) T.b_repr (by decide +kernel) (da_cons (de_ix (de_var (pv 2)) (de_var (pv 4))) da_nil)) (nomark _))))) (ds_one (ds_ret de_bl)) ds_nil) (ds_cons (ds_if (dt_of (o_ne hr.units) (de_callN C__law_caught (hr.mono (by decide)) (GD A hgd) (by rfl) (da_cons (de_var (pv 1)) (da_cons (de_ix (de_var (pv 2)) (de_var (pv 4))) (da_cons de_str da_nil)))) (de_two o_add (de_lst (da_cons (de_var (pv 1)) da_nil)) (de_lc rfl sc__law_cell_right.nd (di_val (de_var (pv 6))) (blkOk_by (own := [("_law_one", 7)]) (N := N__law_cell_right) (sc := defScope s__law_cell_right) (by decide +kernel)) (by rfl) (by decide) (fun _ _ _ _ _ => (dg_name (pg_name (i := 7) sc__law_cell_right.nd rfl (by first | exact Or.inl rfl | exact Or.inr rfl)))) (fun _ _ _ _ _ => dts_nil) (fun _ _ _ _ _ => (de_bi (c_reprX (GD A hgd) hr.units) (by rfl) T.b_repr (by decide +kernel) (da_cons (de_var (pv 7)) da_nil))))) (nomark _)) (ds_one (ds_ret de_bl)) ds_nil) (ds_one (ds_if (dt_not (dt_tru (de_callN C__law_is_caught_above (hr.mono (by decide)) (GD A hgd) (by rfl) (da_cons (de_var (pv 1)) (da_cons (de_ix (de_var (pv 2)) (de_var (pv 4))) (da_cons de_str da_nil)))))) (ds_one (ds_ret de_bl)) ds_nil))))))))))))) (ds_one (ds_ret de_bl)))
theorem ok_law {f : Addr} {fd : FuncData} (F : Fun K "law" "law" s_law f fd) (T : Txt K mg) (O : Objs K mg c i) (C__law_cell_right : CalG P w K mg base 6 "_law_cell_right" 1 (g__law_cell_right K c)) (C__law_stock : CalG P w K mg base 1 "_law_stock" 2 (g__law_stock)) : FnG P w K mg base CX0 7 f fd ["_law_script"] (g_law K c) :=
  fnG_of F sc_law fun cdv A outer s H E hr hgd => by
    unfold f_law
    exact (ds_cons (ds_for PassesOwn.never rfl (di_range1 (by rfl) T.b_range (da_cons (de_bi (c_max rfl) (by rfl) T.b_max (by decide +kernel) (da_cons de_int (da_cons (de_bi (c_min rfl) (by rfl) T.b_min (by decide +kernel) (da_cons de_int (da_cons (de_bi c_len (by rfl) T.b_len (by decide +kernel) (da_cons (de_var (pv 0)) da_nil)) da_nil))) da_nil))) da_nil)) (dg_name (pg_name (i := 1) sc_law.nd rfl (by first | exact Or.inl rfl | exact Or.inr rfl))) (ds_one (ds_if (dt_not (dt_tru (de_callN C__law_cell_right (hr.mono (by decide)) (GD A hgd) (by rfl) (da_cons (de_callN C__law_stock (hr.mono (by decide)) (GD A hgd) (by rfl) (da_cons (de_var (pv 0)) (da_cons (de_var (pv 1)) da_nil))) da_nil)))) (ds_one (ds_ret de_bl)) ds_nil))) (ds_one (ds_ret de_bl)))
end
end K01
namespace K01
open PySem PySem.Spec PyProof.Rows L2 Den
/-! ### the drawn numbers -/
def Stk (M : Mem) (n : Nat) : Prop := ∃ a b c : Int, M[n]? = some (some [.int a, .int b, .int c])
theorem Stk.lt {M : Mem} {n : Nat} (h : Stk M n) : n < M.length := by
  obtain ⟨a, b, c, h⟩ := h
  exact (List.getElem?_eq_some_iff.mp h).1
theorem Stk.set {M : Mem} {n : Nat} (h : Stk M n) (a b c : Int) : Stk (M.set n (some [.int a, .int b, .int c])) n := ⟨a, b, c, by rw [List.getElem?_set_self h.lt]⟩
/-- nothing but the n-th list has changed -/
def Kp (n : Nat) (M M' : Mem) : Prop := M'.length = M.length ∧ ∀ m, m ≠ n → M'[m]? = M[m]?
theorem Kp.refl (n : Nat) (M : Mem) : Kp n M M := ⟨rfl, fun _ _ => rfl⟩
theorem Kp.trans {n : Nat} {M M1 M2 : Mem} (h : Kp n M M1) (k : Kp n M1 M2) : Kp n M M2 := ⟨k.1.trans h.1, fun m hm => (k.2 m hm).trans (h.2 m hm)⟩
theorem Kp.set {n : Nat} {M : Mem} (x : Option (List D)) : Kp n M (M.set n x) := ⟨by simp, fun m hm => List.getElem?_set_ne (Ne.symm hm)⟩
theorem draw_ok {M : Mem} {n : Nat} {t : Int} (h : Stk M n) (h0 : 0 < t) (h1 : t.natAbs.log2 < 9000) : ∃ (r : Int) (M' : Mem), g__law_draw [.loc n, .int t] M = .ok (.int r) M' ∧ 0 ≤ r ∧ r < t ∧ Stk M' n ∧ Kp n M M' := by
  obtain ⟨a, b, c, hM⟩ := h
  have hn := (List.getElem?_eq_some_iff.mp hM).1
  by_cases ha : 0 < a
  · refine ⟨a % t, M.set n (some [.int (a / t), .int b, .int c]), ?_, Int.emod_nonneg _ (by omega), Int.emod_lt_of_pos _ h0, ⟨_, _, _, by rw [List.getElem?_set_self hn]⟩, .set _⟩
    simp [g__law_draw, f__law_draw, hM, atI, ixN, ha, mod_ok h0, div_ok (show CDivW a t from ⟨h0, h1⟩)]
  · have e1 := Int.emod_nonneg (b + 1000357 * (c + 1)) (show (2305843009213693951 : Int) ≠ 0 by decide)
    have e2 := Int.emod_lt_of_pos (b + 1000357 * (c + 1)) (show (0 : Int) < 2305843009213693951 by decide)
    let x := (b + 1000357 * (c + 1)) % 2305843009213693951
    have m1 : mulC 1000357 (c + 1) := mul_l (by decide)
    have m2 : mulC x x := mul_l (by show -(2 ^ 64) < x ∧ x < 2 ^ 64; omega)
    have m3 : mulC (x * x % 2305843009213693921) x := mul_r (by show -(2 ^ 64) < x ∧ x < 2 ^ 64; omega)
    have m4 : mulC 9029 (c + 1) := mul_l (by decide)
    have d1 : ∀ y : Int, CDivW y 16384 := fun y => ⟨by decide, by decide⟩
    refine ⟨(x * x % 2305843009213693921 * x + 9029 * (c + 1)) % 2305843009213693907 / 16384 % t, M.set n (some [.int a, .int b, .int (c + 1)]), ?_, Int.emod_nonneg _ (by omega), Int.emod_lt_of_pos _ h0, ⟨_, _, _, by rw [List.getElem?_set_self hn]⟩, .set _⟩
    have hs : ∀ z : Option (List D), (M.set n z)[n]? = some z := fun z => by rw [List.getElem?_set_self hn]
    simp only [show x = (b + 1000357 * (c + 1)) % 2305843009213693951 from rfl] at m2 m3 ⊢
    simp [g__law_draw, f__law_draw, hM, hs, atI, ixN, ha, mod_ok h0, mul_ok m1, mul_ok m2, mul_ok m3, mul_ok m4, fun y M => div_ok (M := M) (d1 y), fun y M => mod_ok (M := M) (i := y) (show (0 : Int) < 2305843009213693951 by decide), fun y M => mod_ok (M := M) (i := y) (show (0 : Int) < 2305843009213693921 by decide), fun y M => mod_ok (M := M) (i := y) (show (0 : Int) < 2305843009213693907 by decide)]
theorem grow_at {M : Mem} (x : Option (List D)) : (M ++ [x])[M.length]? = some x := by simp
theorem ten60 : ∃ p : Int, 0 < p ∧ powC p 11 ∧ ∀ M, gPow (.int 10) (.int 60) M = .ok (.int p) M := ⟨10 ^ (60 : Int).toNat, Int.pow_pos (by decide), by decide +kernel, fun M => pow_ok (by decide +kernel)⟩
theorem ten18 : ∃ r : Int, ∀ M, gPow (.int 10) (.int 18) M = .ok (.int r) M := ⟨10 ^ (18 : Int).toNat, fun M => pow_ok (by decide +kernel)⟩
section
variable {M : Mem} {ns : List Int} {k : Nat} {p q r : Int}
theorem stock_in {v : Int} (hlt : k < ns.length) (hd : atI (ns.map D.int) (k : Int) = some (.int v)) (p1 : ∀ M, gPow (.int 10) (.int 60) M = .ok (.int p) M) (p2 : ∀ M, gPow (.int p) (.int 11) M = .ok (.int q) M) (p3 : ∀ M, gPow (.int 10) (.int 18) M = .ok (.int r) M) (hq : 0 < q) :
    ∃ x y z, g__law_stock [.scr (ns.map D.int), .int k] M = .ok (.loc M.length) (M ++ [some [.int x, .int y, .int z]]) := by
  have m1 : ∀ y M, gMul (.int y) (.int 78713) M = .ok (.int (y * 78713)) M := fun y M => mul_ok (mul_r (by decide))
  obtain ⟨u2, m2⟩ : ∃ u, ∀ M, gMul (.int 6007) (.int k) M = .ok (.int u) M := ⟨_, fun M => mul_ok (mul_l (by decide))⟩
  have m3 : ∀ y M, gMul (.int 29) (.int y) M = .ok (.int (29 * y)) M := fun y M => mul_ok (mul_l (by decide))
  have q0 : ∀ y M, gMod (.int y) (.int q) M = .ok (.int (y % q)) M := fun y M => mod_ok hq
  have q1 : ∀ y M, gMod (.int y) (.int 2147483423) M = .ok (.int (y % 2147483423)) M := fun y M => mod_ok (by decide)
  have q2 : ∀ y M, gMod (.int y) (.int 2305843009213693907) M = .ok (.int (y % 2305843009213693907)) M := fun y M => mod_ok (by decide)
  simp [g__law_stock, f__law_stock, hlt, hd, p1, p2, p3, m1, m2, m3, q0, q1, q2, line1k]
theorem stock_out (hlt : ¬ k < ns.length) (p1 : ∀ M, gPow (.int 10) (.int 60) M = .ok (.int p) M) (p2 : ∀ M, gPow (.int p) (.int 11) M = .ok (.int q) M) (p3 : ∀ M, gPow (.int 10) (.int 18) M = .ok (.int r) M) (hq : 0 < q) :
    ∃ x y z, g__law_stock [.scr (ns.map D.int), .int k] M = .ok (.loc M.length) (M ++ [some [.int x, .int y, .int z]]) := by
  obtain ⟨u, m0⟩ : ∃ u, ∀ M, gMul (.int 43) (.int k) M = .ok (.int u) M := ⟨_, fun M => mul_ok (mul_l (by decide))⟩
  have m1 : ∀ y M, gMul (.int y) (.int 78713) M = .ok (.int (y * 78713)) M := fun y M => mul_ok (mul_r (by decide))
  obtain ⟨u2, m2⟩ : ∃ u, ∀ M, gMul (.int 6007) (.int k) M = .ok (.int u) M := ⟨_, fun M => mul_ok (mul_l (by decide))⟩
  have m3 : ∀ y M, gMul (.int 29) (.int y) M = .ok (.int (29 * y)) M := fun y M => mul_ok (mul_l (by decide))
  have q0 : ∀ y M, gMod (.int y) (.int q) M = .ok (.int (y % q)) M := fun y M => mod_ok hq
  have q1 : ∀ y M, gMod (.int y) (.int 2147483423) M = .ok (.int (y % 2147483423)) M := fun y M => mod_ok (by decide)
  have q2 : ∀ y M, gMod (.int y) (.int 2305843009213693907) M = .ok (.int (y % 2305843009213693907)) M := fun y M => mod_ok (by decide)
  simp [g__law_stock, f__law_stock, hlt, p1, p2, p3, m0, m1, m2, m3, q0, q1, q2, line1k]
end
theorem stock_ok {M : Mem} {ns : List Int} {k : Nat} : ∃ M', g__law_stock [.scr (ns.map D.int), .int k] M = .ok (.loc M.length) M' ∧ Stk M' M.length := by
  obtain ⟨p, hp0, hp, p1⟩ := ten60
  obtain ⟨q, hq, p2⟩ : ∃ q : Int, 0 < q ∧ ∀ M, gPow (.int p) (.int 11) M = .ok (.int q) M := ⟨p ^ (11 : Int).toNat, Int.pow_pos hp0, fun M => pow_ok hp⟩
  obtain ⟨r, p3⟩ := ten18
  by_cases hlt : k < ns.length
  · obtain ⟨x, y, z, e⟩ := stock_in (M := M) hlt (atI_nat (v := D.int (ns[k]'hlt)) (by simp [hlt])) p1 p2 p3 hq
    exact ⟨_, e, _, _, _, grow_at _⟩
  · obtain ⟨x, y, z, e⟩ := stock_out (M := M) hlt p1 p2 p3 hq
    exact ⟨_, e, _, _, _, grow_at _⟩
theorem pick_ok {M : Mem} {n : Nat} {xs : List D} (h : Stk M n) (h0 : 0 < xs.length) (h1 : xs.length < 1000000) : ∃ (d : D) (M' : Mem), g__law_pick [.loc n, .lst xs] M = .ok d M' ∧ d ∈ xs ∧ Stk M' n ∧ Kp n M M' := by
  obtain ⟨r, M', e, r0, r1, h2, h3⟩ := draw_ok h (t := (xs.length : Int)) (by omega) (by
    have : (xs.length : Int).natAbs = xs.length := rfl
    rw [this]
    have := (Nat.log2_lt (by omega)).mpr (Nat.lt_trans h1 (show 1000000 < 2 ^ 20 by decide))
    omega)
  have hn : (r.toNat : Int) = r := Int.toNat_of_nonneg r0
  have hx : xs[r.toNat]? = some (xs[r.toNat]'(by omega)) := by simp
  have ha := atI_nat hx
  rw [hn] at ha
  refine ⟨_, M', ?_, List.getElem_mem (l := xs) (n := r.toNat) (by omega), h2, h3⟩
  simp [g__law_pick, f__law_pick, e, ha]
end K01
namespace K01
open PySem PySem.Spec PyProof.Rows L2 Den
def Kit1 (K : Kf) (c : Er) : Prop := PySem.W.kitOne K (.ref c.W) (.ref c.F) = some true ∧ PySem.W.kitOne K (.ref c.W) (.ref c.W) = some true ∧ PySem.W.kitOne K (.ref c.W) (.ref c.M) = some false ∧ PySem.W.kitOne K (.ref c.W) (.ref c.P) = some false ∧ PySem.W.kitOne K (.ref c.W) (.ref c.R) = some false ∧ PySem.W.kitOne K (.ref c.W) (.ref c.L) = some false ∧ PySem.W.kitOne K (.ref c.W) (.ref c.O) = some false ∧ PySem.W.kitOne K (.ref c.W) (.ref c.E) = some false ∧ PySem.W.kitOne K (.ref c.W) (.ref c.N) = some false ∧ PySem.W.kitOne K (.ref c.W) (.ref c.U) = some false ∧ PySem.W.kitOne K (.ref c.W) (.ref c.T) = some false ∧ PySem.W.kitOne K (.ref c.W) (.ref c.B) = some false ∧ PySem.W.kitOne K (.ref c.W) (.ref c.D) = some false ∧ PySem.W.kitOne K (.ref c.W) (.type "ValueError") = some true ∧ PySem.W.kitOne K (.ref c.W) (.type "LookupError") = some false ∧ PySem.W.kitOne K (.ref c.W) (.type "IndexError") = some false ∧ PySem.W.kitOne K (.ref c.W) (.type "KeyError") = some false ∧ PySem.W.kitOne K (.ref c.W) (.type "ArithmeticError") = some false ∧ PySem.W.kitOne K (.ref c.W) (.type "OverflowError") = some false ∧ PySem.W.kitOne K (.ref c.W) (.type "ZeroDivisionError") = some false
def Exm1 (K : Kf) (c : Er) : Prop := PySem.W.exmOne K (.ref c.W) (.ref c.F) = some true ∧ PySem.W.exmOne K (.ref c.W) (.ref c.W) = some true ∧ PySem.W.exmOne K (.ref c.W) (.ref c.M) = some false ∧ PySem.W.exmOne K (.ref c.W) (.ref c.P) = some false ∧ PySem.W.exmOne K (.ref c.W) (.ref c.R) = some false ∧ PySem.W.exmOne K (.ref c.W) (.ref c.L) = some false ∧ PySem.W.exmOne K (.ref c.W) (.ref c.O) = some false ∧ PySem.W.exmOne K (.ref c.W) (.ref c.E) = some false ∧ PySem.W.exmOne K (.ref c.W) (.ref c.N) = some false ∧ PySem.W.exmOne K (.ref c.W) (.ref c.U) = some false ∧ PySem.W.exmOne K (.ref c.W) (.ref c.T) = some false ∧ PySem.W.exmOne K (.ref c.W) (.ref c.B) = some false ∧ PySem.W.exmOne K (.ref c.W) (.ref c.D) = some false
def Kit2 (K : Kf) (c : Er) : Prop := PySem.W.kitOne K (.ref c.M) (.ref c.F) = some true ∧ PySem.W.kitOne K (.ref c.M) (.ref c.W) = some false ∧ PySem.W.kitOne K (.ref c.M) (.ref c.M) = some true ∧ PySem.W.kitOne K (.ref c.M) (.ref c.P) = some false ∧ PySem.W.kitOne K (.ref c.M) (.ref c.R) = some false ∧ PySem.W.kitOne K (.ref c.M) (.ref c.L) = some false ∧ PySem.W.kitOne K (.ref c.M) (.ref c.O) = some false ∧ PySem.W.kitOne K (.ref c.M) (.ref c.E) = some false ∧ PySem.W.kitOne K (.ref c.M) (.ref c.N) = some false ∧ PySem.W.kitOne K (.ref c.M) (.ref c.U) = some false ∧ PySem.W.kitOne K (.ref c.M) (.ref c.T) = some false ∧ PySem.W.kitOne K (.ref c.M) (.ref c.B) = some false ∧ PySem.W.kitOne K (.ref c.M) (.ref c.D) = some false ∧ PySem.W.kitOne K (.ref c.M) (.type "ValueError") = some true ∧ PySem.W.kitOne K (.ref c.M) (.type "LookupError") = some false ∧ PySem.W.kitOne K (.ref c.M) (.type "IndexError") = some false ∧ PySem.W.kitOne K (.ref c.M) (.type "KeyError") = some false ∧ PySem.W.kitOne K (.ref c.M) (.type "ArithmeticError") = some false ∧ PySem.W.kitOne K (.ref c.M) (.type "OverflowError") = some false ∧ PySem.W.kitOne K (.ref c.M) (.type "ZeroDivisionError") = some false
def Exm2 (K : Kf) (c : Er) : Prop := PySem.W.exmOne K (.ref c.M) (.ref c.F) = some true ∧ PySem.W.exmOne K (.ref c.M) (.ref c.W) = some false ∧ PySem.W.exmOne K (.ref c.M) (.ref c.M) = some true ∧ PySem.W.exmOne K (.ref c.M) (.ref c.P) = some false ∧ PySem.W.exmOne K (.ref c.M) (.ref c.R) = some false ∧ PySem.W.exmOne K (.ref c.M) (.ref c.L) = some false ∧ PySem.W.exmOne K (.ref c.M) (.ref c.O) = some false ∧ PySem.W.exmOne K (.ref c.M) (.ref c.E) = some false ∧ PySem.W.exmOne K (.ref c.M) (.ref c.N) = some false ∧ PySem.W.exmOne K (.ref c.M) (.ref c.U) = some false ∧ PySem.W.exmOne K (.ref c.M) (.ref c.T) = some false ∧ PySem.W.exmOne K (.ref c.M) (.ref c.B) = some false ∧ PySem.W.exmOne K (.ref c.M) (.ref c.D) = some false
def Kit3 (K : Kf) (c : Er) : Prop := PySem.W.kitOne K (.ref c.P) (.ref c.F) = some true ∧ PySem.W.kitOne K (.ref c.P) (.ref c.W) = some false ∧ PySem.W.kitOne K (.ref c.P) (.ref c.M) = some false ∧ PySem.W.kitOne K (.ref c.P) (.ref c.P) = some true ∧ PySem.W.kitOne K (.ref c.P) (.ref c.R) = some false ∧ PySem.W.kitOne K (.ref c.P) (.ref c.L) = some false ∧ PySem.W.kitOne K (.ref c.P) (.ref c.O) = some false ∧ PySem.W.kitOne K (.ref c.P) (.ref c.E) = some false ∧ PySem.W.kitOne K (.ref c.P) (.ref c.N) = some false ∧ PySem.W.kitOne K (.ref c.P) (.ref c.U) = some false ∧ PySem.W.kitOne K (.ref c.P) (.ref c.T) = some false ∧ PySem.W.kitOne K (.ref c.P) (.ref c.B) = some false ∧ PySem.W.kitOne K (.ref c.P) (.ref c.D) = some false ∧ PySem.W.kitOne K (.ref c.P) (.type "ValueError") = some true ∧ PySem.W.kitOne K (.ref c.P) (.type "LookupError") = some false ∧ PySem.W.kitOne K (.ref c.P) (.type "IndexError") = some false ∧ PySem.W.kitOne K (.ref c.P) (.type "KeyError") = some false ∧ PySem.W.kitOne K (.ref c.P) (.type "ArithmeticError") = some false ∧ PySem.W.kitOne K (.ref c.P) (.type "OverflowError") = some false ∧ PySem.W.kitOne K (.ref c.P) (.type "ZeroDivisionError") = some false
def Exm3 (K : Kf) (c : Er) : Prop := PySem.W.exmOne K (.ref c.P) (.ref c.F) = some true ∧ PySem.W.exmOne K (.ref c.P) (.ref c.W) = some false ∧ PySem.W.exmOne K (.ref c.P) (.ref c.M) = some false ∧ PySem.W.exmOne K (.ref c.P) (.ref c.P) = some true ∧ PySem.W.exmOne K (.ref c.P) (.ref c.R) = some false ∧ PySem.W.exmOne K (.ref c.P) (.ref c.L) = some false ∧ PySem.W.exmOne K (.ref c.P) (.ref c.O) = some false ∧ PySem.W.exmOne K (.ref c.P) (.ref c.E) = some false ∧ PySem.W.exmOne K (.ref c.P) (.ref c.N) = some false ∧ PySem.W.exmOne K (.ref c.P) (.ref c.U) = some false ∧ PySem.W.exmOne K (.ref c.P) (.ref c.T) = some false ∧ PySem.W.exmOne K (.ref c.P) (.ref c.B) = some false ∧ PySem.W.exmOne K (.ref c.P) (.ref c.D) = some false
def Kit4 (K : Kf) (c : Er) : Prop := PySem.W.kitOne K (.ref c.R) (.ref c.F) = some true ∧ PySem.W.kitOne K (.ref c.R) (.ref c.W) = some false ∧ PySem.W.kitOne K (.ref c.R) (.ref c.M) = some false ∧ PySem.W.kitOne K (.ref c.R) (.ref c.P) = some false ∧ PySem.W.kitOne K (.ref c.R) (.ref c.R) = some true ∧ PySem.W.kitOne K (.ref c.R) (.ref c.L) = some false ∧ PySem.W.kitOne K (.ref c.R) (.ref c.O) = some false ∧ PySem.W.kitOne K (.ref c.R) (.ref c.E) = some false ∧ PySem.W.kitOne K (.ref c.R) (.ref c.N) = some false ∧ PySem.W.kitOne K (.ref c.R) (.ref c.U) = some false ∧ PySem.W.kitOne K (.ref c.R) (.ref c.T) = some false ∧ PySem.W.kitOne K (.ref c.R) (.ref c.B) = some false ∧ PySem.W.kitOne K (.ref c.R) (.ref c.D) = some false ∧ PySem.W.kitOne K (.ref c.R) (.type "ValueError") = some true ∧ PySem.W.kitOne K (.ref c.R) (.type "LookupError") = some false ∧ PySem.W.kitOne K (.ref c.R) (.type "IndexError") = some false ∧ PySem.W.kitOne K (.ref c.R) (.type "KeyError") = some false ∧ PySem.W.kitOne K (.ref c.R) (.type "ArithmeticError") = some false ∧ PySem.W.kitOne K (.ref c.R) (.type "OverflowError") = some false ∧ PySem.W.kitOne K (.ref c.R) (.type "ZeroDivisionError") = some false
def Exm4 (K : Kf) (c : Er) : Prop := PySem.W.exmOne K (.ref c.R) (.ref c.F) = some true ∧ PySem.W.exmOne K (.ref c.R) (.ref c.W) = some false ∧ PySem.W.exmOne K (.ref c.R) (.ref c.M) = some false ∧ PySem.W.exmOne K (.ref c.R) (.ref c.P) = some false ∧ PySem.W.exmOne K (.ref c.R) (.ref c.R) = some true ∧ PySem.W.exmOne K (.ref c.R) (.ref c.L) = some false ∧ PySem.W.exmOne K (.ref c.R) (.ref c.O) = some false ∧ PySem.W.exmOne K (.ref c.R) (.ref c.E) = some false ∧ PySem.W.exmOne K (.ref c.R) (.ref c.N) = some false ∧ PySem.W.exmOne K (.ref c.R) (.ref c.U) = some false ∧ PySem.W.exmOne K (.ref c.R) (.ref c.T) = some false ∧ PySem.W.exmOne K (.ref c.R) (.ref c.B) = some false ∧ PySem.W.exmOne K (.ref c.R) (.ref c.D) = some false
def Kit5 (K : Kf) (c : Er) : Prop := PySem.W.kitOne K (.ref c.L) (.ref c.F) = some true ∧ PySem.W.kitOne K (.ref c.L) (.ref c.W) = some false ∧ PySem.W.kitOne K (.ref c.L) (.ref c.M) = some false ∧ PySem.W.kitOne K (.ref c.L) (.ref c.P) = some false ∧ PySem.W.kitOne K (.ref c.L) (.ref c.R) = some false ∧ PySem.W.kitOne K (.ref c.L) (.ref c.L) = some true ∧ PySem.W.kitOne K (.ref c.L) (.ref c.O) = some false ∧ PySem.W.kitOne K (.ref c.L) (.ref c.E) = some false ∧ PySem.W.kitOne K (.ref c.L) (.ref c.N) = some false ∧ PySem.W.kitOne K (.ref c.L) (.ref c.U) = some false ∧ PySem.W.kitOne K (.ref c.L) (.ref c.T) = some false ∧ PySem.W.kitOne K (.ref c.L) (.ref c.B) = some false ∧ PySem.W.kitOne K (.ref c.L) (.ref c.D) = some false ∧ PySem.W.kitOne K (.ref c.L) (.type "ValueError") = some true ∧ PySem.W.kitOne K (.ref c.L) (.type "LookupError") = some false ∧ PySem.W.kitOne K (.ref c.L) (.type "IndexError") = some false ∧ PySem.W.kitOne K (.ref c.L) (.type "KeyError") = some false ∧ PySem.W.kitOne K (.ref c.L) (.type "ArithmeticError") = some false ∧ PySem.W.kitOne K (.ref c.L) (.type "OverflowError") = some false ∧ PySem.W.kitOne K (.ref c.L) (.type "ZeroDivisionError") = some false
def Exm5 (K : Kf) (c : Er) : Prop := PySem.W.exmOne K (.ref c.L) (.ref c.F) = some true ∧ PySem.W.exmOne K (.ref c.L) (.ref c.W) = some false ∧ PySem.W.exmOne K (.ref c.L) (.ref c.M) = some false ∧ PySem.W.exmOne K (.ref c.L) (.ref c.P) = some false ∧ PySem.W.exmOne K (.ref c.L) (.ref c.R) = some false ∧ PySem.W.exmOne K (.ref c.L) (.ref c.L) = some true ∧ PySem.W.exmOne K (.ref c.L) (.ref c.O) = some false ∧ PySem.W.exmOne K (.ref c.L) (.ref c.E) = some false ∧ PySem.W.exmOne K (.ref c.L) (.ref c.N) = some false ∧ PySem.W.exmOne K (.ref c.L) (.ref c.U) = some false ∧ PySem.W.exmOne K (.ref c.L) (.ref c.T) = some false ∧ PySem.W.exmOne K (.ref c.L) (.ref c.B) = some false ∧ PySem.W.exmOne K (.ref c.L) (.ref c.D) = some false
def Kit6 (K : Kf) (c : Er) : Prop := PySem.W.kitOne K (.ref c.O) (.ref c.F) = some true ∧ PySem.W.kitOne K (.ref c.O) (.ref c.W) = some false ∧ PySem.W.kitOne K (.ref c.O) (.ref c.M) = some false ∧ PySem.W.kitOne K (.ref c.O) (.ref c.P) = some false ∧ PySem.W.kitOne K (.ref c.O) (.ref c.R) = some false ∧ PySem.W.kitOne K (.ref c.O) (.ref c.L) = some false ∧ PySem.W.kitOne K (.ref c.O) (.ref c.O) = some true ∧ PySem.W.kitOne K (.ref c.O) (.ref c.E) = some false ∧ PySem.W.kitOne K (.ref c.O) (.ref c.N) = some false ∧ PySem.W.kitOne K (.ref c.O) (.ref c.U) = some false ∧ PySem.W.kitOne K (.ref c.O) (.ref c.T) = some false ∧ PySem.W.kitOne K (.ref c.O) (.ref c.B) = some false ∧ PySem.W.kitOne K (.ref c.O) (.ref c.D) = some false ∧ PySem.W.kitOne K (.ref c.O) (.type "ValueError") = some true ∧ PySem.W.kitOne K (.ref c.O) (.type "LookupError") = some false ∧ PySem.W.kitOne K (.ref c.O) (.type "IndexError") = some false ∧ PySem.W.kitOne K (.ref c.O) (.type "KeyError") = some false ∧ PySem.W.kitOne K (.ref c.O) (.type "ArithmeticError") = some false ∧ PySem.W.kitOne K (.ref c.O) (.type "OverflowError") = some false ∧ PySem.W.kitOne K (.ref c.O) (.type "ZeroDivisionError") = some false
def Exm6 (K : Kf) (c : Er) : Prop := PySem.W.exmOne K (.ref c.O) (.ref c.F) = some true ∧ PySem.W.exmOne K (.ref c.O) (.ref c.W) = some false ∧ PySem.W.exmOne K (.ref c.O) (.ref c.M) = some false ∧ PySem.W.exmOne K (.ref c.O) (.ref c.P) = some false ∧ PySem.W.exmOne K (.ref c.O) (.ref c.R) = some false ∧ PySem.W.exmOne K (.ref c.O) (.ref c.L) = some false ∧ PySem.W.exmOne K (.ref c.O) (.ref c.O) = some true ∧ PySem.W.exmOne K (.ref c.O) (.ref c.E) = some false ∧ PySem.W.exmOne K (.ref c.O) (.ref c.N) = some false ∧ PySem.W.exmOne K (.ref c.O) (.ref c.U) = some false ∧ PySem.W.exmOne K (.ref c.O) (.ref c.T) = some false ∧ PySem.W.exmOne K (.ref c.O) (.ref c.B) = some false ∧ PySem.W.exmOne K (.ref c.O) (.ref c.D) = some false
def Kit7 (K : Kf) (c : Er) : Prop := PySem.W.kitOne K (.ref c.E) (.ref c.F) = some true ∧ PySem.W.kitOne K (.ref c.E) (.ref c.W) = some false ∧ PySem.W.kitOne K (.ref c.E) (.ref c.M) = some false ∧ PySem.W.kitOne K (.ref c.E) (.ref c.P) = some false ∧ PySem.W.kitOne K (.ref c.E) (.ref c.R) = some false ∧ PySem.W.kitOne K (.ref c.E) (.ref c.L) = some false ∧ PySem.W.kitOne K (.ref c.E) (.ref c.O) = some false ∧ PySem.W.kitOne K (.ref c.E) (.ref c.E) = some true ∧ PySem.W.kitOne K (.ref c.E) (.ref c.N) = some false ∧ PySem.W.kitOne K (.ref c.E) (.ref c.U) = some false ∧ PySem.W.kitOne K (.ref c.E) (.ref c.T) = some false ∧ PySem.W.kitOne K (.ref c.E) (.ref c.B) = some false ∧ PySem.W.kitOne K (.ref c.E) (.ref c.D) = some false ∧ PySem.W.kitOne K (.ref c.E) (.type "ValueError") = some true ∧ PySem.W.kitOne K (.ref c.E) (.type "LookupError") = some false ∧ PySem.W.kitOne K (.ref c.E) (.type "IndexError") = some false ∧ PySem.W.kitOne K (.ref c.E) (.type "KeyError") = some false ∧ PySem.W.kitOne K (.ref c.E) (.type "ArithmeticError") = some false ∧ PySem.W.kitOne K (.ref c.E) (.type "OverflowError") = some false ∧ PySem.W.kitOne K (.ref c.E) (.type "ZeroDivisionError") = some false
def Exm7 (K : Kf) (c : Er) : Prop := PySem.W.exmOne K (.ref c.E) (.ref c.F) = some true ∧ PySem.W.exmOne K (.ref c.E) (.ref c.W) = some false ∧ PySem.W.exmOne K (.ref c.E) (.ref c.M) = some false ∧ PySem.W.exmOne K (.ref c.E) (.ref c.P) = some false ∧ PySem.W.exmOne K (.ref c.E) (.ref c.R) = some false ∧ PySem.W.exmOne K (.ref c.E) (.ref c.L) = some false ∧ PySem.W.exmOne K (.ref c.E) (.ref c.O) = some false ∧ PySem.W.exmOne K (.ref c.E) (.ref c.E) = some true ∧ PySem.W.exmOne K (.ref c.E) (.ref c.N) = some false ∧ PySem.W.exmOne K (.ref c.E) (.ref c.U) = some false ∧ PySem.W.exmOne K (.ref c.E) (.ref c.T) = some false ∧ PySem.W.exmOne K (.ref c.E) (.ref c.B) = some false ∧ PySem.W.exmOne K (.ref c.E) (.ref c.D) = some false
def Kit8 (K : Kf) (c : Er) : Prop := PySem.W.kitOne K (.ref c.N) (.ref c.F) = some false ∧ PySem.W.kitOne K (.ref c.N) (.ref c.W) = some false ∧ PySem.W.kitOne K (.ref c.N) (.ref c.M) = some false ∧ PySem.W.kitOne K (.ref c.N) (.ref c.P) = some false ∧ PySem.W.kitOne K (.ref c.N) (.ref c.R) = some false ∧ PySem.W.kitOne K (.ref c.N) (.ref c.L) = some false ∧ PySem.W.kitOne K (.ref c.N) (.ref c.O) = some false ∧ PySem.W.kitOne K (.ref c.N) (.ref c.E) = some false ∧ PySem.W.kitOne K (.ref c.N) (.ref c.N) = some true ∧ PySem.W.kitOne K (.ref c.N) (.ref c.U) = some false ∧ PySem.W.kitOne K (.ref c.N) (.ref c.T) = some false ∧ PySem.W.kitOne K (.ref c.N) (.ref c.B) = some false ∧ PySem.W.kitOne K (.ref c.N) (.ref c.D) = some false ∧ PySem.W.kitOne K (.ref c.N) (.type "ValueError") = some false ∧ PySem.W.kitOne K (.ref c.N) (.type "LookupError") = some true ∧ PySem.W.kitOne K (.ref c.N) (.type "IndexError") = some true ∧ PySem.W.kitOne K (.ref c.N) (.type "KeyError") = some false ∧ PySem.W.kitOne K (.ref c.N) (.type "ArithmeticError") = some false ∧ PySem.W.kitOne K (.ref c.N) (.type "OverflowError") = some false ∧ PySem.W.kitOne K (.ref c.N) (.type "ZeroDivisionError") = some false
def Exm8 (K : Kf) (c : Er) : Prop := PySem.W.exmOne K (.ref c.N) (.ref c.F) = some false ∧ PySem.W.exmOne K (.ref c.N) (.ref c.W) = some false ∧ PySem.W.exmOne K (.ref c.N) (.ref c.M) = some false ∧ PySem.W.exmOne K (.ref c.N) (.ref c.P) = some false ∧ PySem.W.exmOne K (.ref c.N) (.ref c.R) = some false ∧ PySem.W.exmOne K (.ref c.N) (.ref c.L) = some false ∧ PySem.W.exmOne K (.ref c.N) (.ref c.O) = some false ∧ PySem.W.exmOne K (.ref c.N) (.ref c.E) = some false ∧ PySem.W.exmOne K (.ref c.N) (.ref c.N) = some true ∧ PySem.W.exmOne K (.ref c.N) (.ref c.U) = some false ∧ PySem.W.exmOne K (.ref c.N) (.ref c.T) = some false ∧ PySem.W.exmOne K (.ref c.N) (.ref c.B) = some false ∧ PySem.W.exmOne K (.ref c.N) (.ref c.D) = some false
def Kit9 (K : Kf) (c : Er) : Prop := PySem.W.kitOne K (.ref c.U) (.ref c.F) = some false ∧ PySem.W.kitOne K (.ref c.U) (.ref c.W) = some false ∧ PySem.W.kitOne K (.ref c.U) (.ref c.M) = some false ∧ PySem.W.kitOne K (.ref c.U) (.ref c.P) = some false ∧ PySem.W.kitOne K (.ref c.U) (.ref c.R) = some false ∧ PySem.W.kitOne K (.ref c.U) (.ref c.L) = some false ∧ PySem.W.kitOne K (.ref c.U) (.ref c.O) = some false ∧ PySem.W.kitOne K (.ref c.U) (.ref c.E) = some false ∧ PySem.W.kitOne K (.ref c.U) (.ref c.N) = some false ∧ PySem.W.kitOne K (.ref c.U) (.ref c.U) = some true ∧ PySem.W.kitOne K (.ref c.U) (.ref c.T) = some false ∧ PySem.W.kitOne K (.ref c.U) (.ref c.B) = some false ∧ PySem.W.kitOne K (.ref c.U) (.ref c.D) = some false ∧ PySem.W.kitOne K (.ref c.U) (.type "ValueError") = some false ∧ PySem.W.kitOne K (.ref c.U) (.type "LookupError") = some true ∧ PySem.W.kitOne K (.ref c.U) (.type "IndexError") = some false ∧ PySem.W.kitOne K (.ref c.U) (.type "KeyError") = some true ∧ PySem.W.kitOne K (.ref c.U) (.type "ArithmeticError") = some false ∧ PySem.W.kitOne K (.ref c.U) (.type "OverflowError") = some false ∧ PySem.W.kitOne K (.ref c.U) (.type "ZeroDivisionError") = some false
def Exm9 (K : Kf) (c : Er) : Prop := PySem.W.exmOne K (.ref c.U) (.ref c.F) = some false ∧ PySem.W.exmOne K (.ref c.U) (.ref c.W) = some false ∧ PySem.W.exmOne K (.ref c.U) (.ref c.M) = some false ∧ PySem.W.exmOne K (.ref c.U) (.ref c.P) = some false ∧ PySem.W.exmOne K (.ref c.U) (.ref c.R) = some false ∧ PySem.W.exmOne K (.ref c.U) (.ref c.L) = some false ∧ PySem.W.exmOne K (.ref c.U) (.ref c.O) = some false ∧ PySem.W.exmOne K (.ref c.U) (.ref c.E) = some false ∧ PySem.W.exmOne K (.ref c.U) (.ref c.N) = some false ∧ PySem.W.exmOne K (.ref c.U) (.ref c.U) = some true ∧ PySem.W.exmOne K (.ref c.U) (.ref c.T) = some false ∧ PySem.W.exmOne K (.ref c.U) (.ref c.B) = some false ∧ PySem.W.exmOne K (.ref c.U) (.ref c.D) = some false
def Kit10 (K : Kf) (c : Er) : Prop := PySem.W.kitOne K (.ref c.T) (.ref c.F) = some false ∧ PySem.W.kitOne K (.ref c.T) (.ref c.W) = some false ∧ PySem.W.kitOne K (.ref c.T) (.ref c.M) = some false ∧ PySem.W.kitOne K (.ref c.T) (.ref c.P) = some false ∧ PySem.W.kitOne K (.ref c.T) (.ref c.R) = some false ∧ PySem.W.kitOne K (.ref c.T) (.ref c.L) = some false ∧ PySem.W.kitOne K (.ref c.T) (.ref c.O) = some false ∧ PySem.W.kitOne K (.ref c.T) (.ref c.E) = some false ∧ PySem.W.kitOne K (.ref c.T) (.ref c.N) = some false ∧ PySem.W.kitOne K (.ref c.T) (.ref c.U) = some false ∧ PySem.W.kitOne K (.ref c.T) (.ref c.T) = some true ∧ PySem.W.kitOne K (.ref c.T) (.ref c.B) = some false ∧ PySem.W.kitOne K (.ref c.T) (.ref c.D) = some false ∧ PySem.W.kitOne K (.ref c.T) (.type "ValueError") = some false ∧ PySem.W.kitOne K (.ref c.T) (.type "LookupError") = some false ∧ PySem.W.kitOne K (.ref c.T) (.type "IndexError") = some false ∧ PySem.W.kitOne K (.ref c.T) (.type "KeyError") = some false ∧ PySem.W.kitOne K (.ref c.T) (.type "ArithmeticError") = some true ∧ PySem.W.kitOne K (.ref c.T) (.type "OverflowError") = some true ∧ PySem.W.kitOne K (.ref c.T) (.type "ZeroDivisionError") = some false
def Exm10 (K : Kf) (c : Er) : Prop := PySem.W.exmOne K (.ref c.T) (.ref c.F) = some false ∧ PySem.W.exmOne K (.ref c.T) (.ref c.W) = some false ∧ PySem.W.exmOne K (.ref c.T) (.ref c.M) = some false ∧ PySem.W.exmOne K (.ref c.T) (.ref c.P) = some false ∧ PySem.W.exmOne K (.ref c.T) (.ref c.R) = some false ∧ PySem.W.exmOne K (.ref c.T) (.ref c.L) = some false ∧ PySem.W.exmOne K (.ref c.T) (.ref c.O) = some false ∧ PySem.W.exmOne K (.ref c.T) (.ref c.E) = some false ∧ PySem.W.exmOne K (.ref c.T) (.ref c.N) = some false ∧ PySem.W.exmOne K (.ref c.T) (.ref c.U) = some false ∧ PySem.W.exmOne K (.ref c.T) (.ref c.T) = some true ∧ PySem.W.exmOne K (.ref c.T) (.ref c.B) = some false ∧ PySem.W.exmOne K (.ref c.T) (.ref c.D) = some false
def Kit11 (K : Kf) (c : Er) : Prop := PySem.W.kitOne K (.ref c.B) (.ref c.F) = some false ∧ PySem.W.kitOne K (.ref c.B) (.ref c.W) = some false ∧ PySem.W.kitOne K (.ref c.B) (.ref c.M) = some false ∧ PySem.W.kitOne K (.ref c.B) (.ref c.P) = some false ∧ PySem.W.kitOne K (.ref c.B) (.ref c.R) = some false ∧ PySem.W.kitOne K (.ref c.B) (.ref c.L) = some false ∧ PySem.W.kitOne K (.ref c.B) (.ref c.O) = some false ∧ PySem.W.kitOne K (.ref c.B) (.ref c.E) = some false ∧ PySem.W.kitOne K (.ref c.B) (.ref c.N) = some false ∧ PySem.W.kitOne K (.ref c.B) (.ref c.U) = some false ∧ PySem.W.kitOne K (.ref c.B) (.ref c.T) = some false ∧ PySem.W.kitOne K (.ref c.B) (.ref c.B) = some true ∧ PySem.W.kitOne K (.ref c.B) (.ref c.D) = some false ∧ PySem.W.kitOne K (.ref c.B) (.type "ValueError") = some false ∧ PySem.W.kitOne K (.ref c.B) (.type "LookupError") = some true ∧ PySem.W.kitOne K (.ref c.B) (.type "IndexError") = some false ∧ PySem.W.kitOne K (.ref c.B) (.type "KeyError") = some false ∧ PySem.W.kitOne K (.ref c.B) (.type "ArithmeticError") = some false ∧ PySem.W.kitOne K (.ref c.B) (.type "OverflowError") = some false ∧ PySem.W.kitOne K (.ref c.B) (.type "ZeroDivisionError") = some false
def Exm11 (K : Kf) (c : Er) : Prop := PySem.W.exmOne K (.ref c.B) (.ref c.F) = some false ∧ PySem.W.exmOne K (.ref c.B) (.ref c.W) = some false ∧ PySem.W.exmOne K (.ref c.B) (.ref c.M) = some false ∧ PySem.W.exmOne K (.ref c.B) (.ref c.P) = some false ∧ PySem.W.exmOne K (.ref c.B) (.ref c.R) = some false ∧ PySem.W.exmOne K (.ref c.B) (.ref c.L) = some false ∧ PySem.W.exmOne K (.ref c.B) (.ref c.O) = some false ∧ PySem.W.exmOne K (.ref c.B) (.ref c.E) = some false ∧ PySem.W.exmOne K (.ref c.B) (.ref c.N) = some false ∧ PySem.W.exmOne K (.ref c.B) (.ref c.U) = some false ∧ PySem.W.exmOne K (.ref c.B) (.ref c.T) = some false ∧ PySem.W.exmOne K (.ref c.B) (.ref c.B) = some true ∧ PySem.W.exmOne K (.ref c.B) (.ref c.D) = some false
def Kit12 (K : Kf) (c : Er) : Prop := PySem.W.kitOne K (.ref c.D) (.ref c.F) = some false ∧ PySem.W.kitOne K (.ref c.D) (.ref c.W) = some false ∧ PySem.W.kitOne K (.ref c.D) (.ref c.M) = some false ∧ PySem.W.kitOne K (.ref c.D) (.ref c.P) = some false ∧ PySem.W.kitOne K (.ref c.D) (.ref c.R) = some false ∧ PySem.W.kitOne K (.ref c.D) (.ref c.L) = some false ∧ PySem.W.kitOne K (.ref c.D) (.ref c.O) = some false ∧ PySem.W.kitOne K (.ref c.D) (.ref c.E) = some false ∧ PySem.W.kitOne K (.ref c.D) (.ref c.N) = some false ∧ PySem.W.kitOne K (.ref c.D) (.ref c.U) = some false ∧ PySem.W.kitOne K (.ref c.D) (.ref c.T) = some false ∧ PySem.W.kitOne K (.ref c.D) (.ref c.B) = some false ∧ PySem.W.kitOne K (.ref c.D) (.ref c.D) = some true ∧ PySem.W.kitOne K (.ref c.D) (.type "ValueError") = some false ∧ PySem.W.kitOne K (.ref c.D) (.type "LookupError") = some false ∧ PySem.W.kitOne K (.ref c.D) (.type "IndexError") = some false ∧ PySem.W.kitOne K (.ref c.D) (.type "KeyError") = some false ∧ PySem.W.kitOne K (.ref c.D) (.type "ArithmeticError") = some true ∧ PySem.W.kitOne K (.ref c.D) (.type "OverflowError") = some false ∧ PySem.W.kitOne K (.ref c.D) (.type "ZeroDivisionError") = some false
def Exm12 (K : Kf) (c : Er) : Prop := PySem.W.exmOne K (.ref c.D) (.ref c.F) = some false ∧ PySem.W.exmOne K (.ref c.D) (.ref c.W) = some false ∧ PySem.W.exmOne K (.ref c.D) (.ref c.M) = some false ∧ PySem.W.exmOne K (.ref c.D) (.ref c.P) = some false ∧ PySem.W.exmOne K (.ref c.D) (.ref c.R) = some false ∧ PySem.W.exmOne K (.ref c.D) (.ref c.L) = some false ∧ PySem.W.exmOne K (.ref c.D) (.ref c.O) = some false ∧ PySem.W.exmOne K (.ref c.D) (.ref c.E) = some false ∧ PySem.W.exmOne K (.ref c.D) (.ref c.N) = some false ∧ PySem.W.exmOne K (.ref c.D) (.ref c.U) = some false ∧ PySem.W.exmOne K (.ref c.D) (.ref c.T) = some false ∧ PySem.W.exmOne K (.ref c.D) (.ref c.B) = some false ∧ PySem.W.exmOne K (.ref c.D) (.ref c.D) = some true
/-- which class is one of which -/
structure KF (K : Kf) (c : Er) : Prop where
  k1 : Kit1 K c
  e1 : Exm1 K c
  k2 : Kit2 K c
  e2 : Exm2 K c
  k3 : Kit3 K c
  e3 : Exm3 K c
  k4 : Kit4 K c
  e4 : Exm4 K c
  k5 : Kit5 K c
  e5 : Exm5 K c
  k6 : Kit6 K c
  e6 : Exm6 K c
  k7 : Kit7 K c
  e7 : Exm7 K c
  k8 : Kit8 K c
  e8 : Exm8 K c
  k9 : Kit9 K c
  e9 : Exm9 K c
  k10 : Kit10 K c
  e10 : Exm10 K c
  k11 : Kit11 K c
  e11 : Exm11 K c
  k12 : Kit12 K c
  e12 : Exm12 K c
  un : c.U ≠ c.N
theorem skipI {n i : Int} {a : FS} {ρ : Ro} {M : Mem} (hr : ρ[0]? = some (some (.int n))) (h : n ≠ i) : sIf (fB (eTwo gEq (eVar 0) (eInt i))) a sNx ρ M = .ok (.nx ρ) M := by
  simp [hr, h]
theorem hitI {n : Int} {d : D} {a b : FS} {ρ : Ro} {M : Mem} (hr : ρ[0]? = some (some (.int n))) (h : a ρ M = .ok (.rt d) M) : sSeq (sIf (fB (eTwo gEq (eVar 0) (eInt n))) a sNx) b ρ M = .ok (.rt d) M := by
  simp [hr, h, Out.then]
theorem goI {a b : FS} {ρ : Ro} {M : Mem} (h : a ρ M = .ok (.nx ρ) M) : sSeq a b ρ M = b ρ M := by simp [h, Out.then]
theorem endI {n : Nat} {F : FS} {ds : List D} {ρ : Ro} {d : D} {M : Mem} (hs : (ds.map some ++ List.replicate (n - ds.length) none : Ro) = ρ) (h : F ρ M = .ok (.rt d) M) : defF n F ds M = .ok d M := by
  subst hs
  simp [h]
section
variable {K : Kf} {c : Er} {M : Mem} {v : D} {t : Str}
theorem own_1 (H : KF K c) : g__law_own_classes K c [.exn c.W [] []] M = .ok (.lst [.bl true, .bl true, .bl false, .bl false, .bl false, .bl false, .bl false, .bl false, .bl false, .bl false, .bl false, .bl false, .bl false]) M := by
  have h := H.k1
  unfold Kit1 at h
  simp [g__law_own_classes, f__law_own_classes, allE, h, line1k]
theorem oth_1 (H : KF K c) : g__law_other_classes K c [.exn c.W [] []] M = .ok (.lst [.bl true, .bl false, .bl false, .bl false, .bl false, .bl false, .bl false]) M := by
  have h := H.k1
  unfold Kit1 at h
  simp [g__law_other_classes, f__law_other_classes, allE, h, line1k]
theorem err_1 : g__law_error_of K c [.int 1, v, .str t] M = .ok (.exn c.W [] []) M := by
  refine endI (ρ := [some (.int 1), some v, some (.str t)]) rfl ?_
  unfold f__law_error_of
  exact hitI (n := 1) rfl rfl
theorem kept_1 : g__law_kept_by K c [.int 1, .exn c.W [] []] M = .ok (.lst []) M := by
  simp [g__law_kept_by, f__law_kept_by, line1k]
theorem raise_1 : g__law_raise K c [.int 1, v, .str t] M = .exc ⟨.ref c.W, none⟩ M := by
  simp [g__law_raise, f__law_raise]
theorem caught_1 (H : KF K c) : g__law_caught K c [.int 1, v, .str t] M = .ok (.lst [.int 1]) M := by
  have h := H.e1
  unfold Exm1 at h
  have k := H.k1
  unfold Kit1 at k
  simp [g__law_caught, f__law_caught, raise_1, PySem.W.exmAny, h, k, allE, line1k, -gReprX]
theorem above_1 (H : KF K c) : g__law_is_caught_above K c [.int 1, v, .str t] M = .ok (.bl true) M := by
  have h := H.e1
  unfold Exm1 at h
  simp [g__law_is_caught_above, f__law_is_caught_above, raise_1, PySem.W.exmAny, h]
theorem own_2 (H : KF K c) : g__law_own_classes K c [.exn c.M [] []] M = .ok (.lst [.bl true, .bl false, .bl true, .bl false, .bl false, .bl false, .bl false, .bl false, .bl false, .bl false, .bl false, .bl false, .bl false]) M := by
  have h := H.k2
  unfold Kit2 at h
  simp [g__law_own_classes, f__law_own_classes, allE, h, line1k]
theorem oth_2 (H : KF K c) : g__law_other_classes K c [.exn c.M [] []] M = .ok (.lst [.bl true, .bl false, .bl false, .bl false, .bl false, .bl false, .bl false]) M := by
  have h := H.k2
  unfold Kit2 at h
  simp [g__law_other_classes, f__law_other_classes, allE, h, line1k]
theorem err_2 : g__law_error_of K c [.int 2, v, .str t] M = .ok (.exn c.M [] []) M := by
  refine endI (ρ := [some (.int 2), some v, some (.str t)]) rfl ?_
  unfold f__law_error_of
  rw [goI (skipI (n := 2) (i := 1) rfl (by decide))]
  exact hitI (n := 2) rfl rfl
theorem kept_2 : g__law_kept_by K c [.int 2, .exn c.M [] []] M = .ok (.lst []) M := by
  simp [g__law_kept_by, f__law_kept_by, line1k]
theorem raise_2 : g__law_raise K c [.int 2, v, .str t] M = .exc ⟨.ref c.M, none⟩ M := by
  simp [g__law_raise, f__law_raise]
theorem caught_2 (H : KF K c) : g__law_caught K c [.int 2, v, .str t] M = .ok (.lst [.int 2]) M := by
  have h := H.e2
  unfold Exm2 at h
  have k := H.k2
  unfold Kit2 at k
  simp [g__law_caught, f__law_caught, raise_2, PySem.W.exmAny, h, k, allE, line1k, -gReprX]
theorem above_2 (H : KF K c) : g__law_is_caught_above K c [.int 2, v, .str t] M = .ok (.bl true) M := by
  have h := H.e2
  unfold Exm2 at h
  simp [g__law_is_caught_above, f__law_is_caught_above, raise_2, PySem.W.exmAny, h]
theorem own_3 (H : KF K c) : g__law_own_classes K c [.exn c.P [] []] M = .ok (.lst [.bl true, .bl false, .bl false, .bl true, .bl false, .bl false, .bl false, .bl false, .bl false, .bl false, .bl false, .bl false, .bl false]) M := by
  have h := H.k3
  unfold Kit3 at h
  simp [g__law_own_classes, f__law_own_classes, allE, h, line1k]
theorem oth_3 (H : KF K c) : g__law_other_classes K c [.exn c.P [] []] M = .ok (.lst [.bl true, .bl false, .bl false, .bl false, .bl false, .bl false, .bl false]) M := by
  have h := H.k3
  unfold Kit3 at h
  simp [g__law_other_classes, f__law_other_classes, allE, h, line1k]
theorem err_3 : g__law_error_of K c [.int 3, v, .str t] M = .ok (.exn c.P [] []) M := by
  refine endI (ρ := [some (.int 3), some v, some (.str t)]) rfl ?_
  unfold f__law_error_of
  rw [goI (skipI (n := 3) (i := 1) rfl (by decide))]
  rw [goI (skipI (n := 3) (i := 2) rfl (by decide))]
  exact hitI (n := 3) rfl rfl
theorem kept_3 : g__law_kept_by K c [.int 3, .exn c.P [] []] M = .ok (.lst []) M := by
  simp [g__law_kept_by, f__law_kept_by, line1k]
theorem raise_3 : g__law_raise K c [.int 3, v, .str t] M = .exc ⟨.ref c.P, none⟩ M := by
  simp [g__law_raise, f__law_raise]
theorem caught_3 (H : KF K c) : g__law_caught K c [.int 3, v, .str t] M = .ok (.lst [.int 3]) M := by
  have h := H.e3
  unfold Exm3 at h
  have k := H.k3
  unfold Kit3 at k
  simp [g__law_caught, f__law_caught, raise_3, PySem.W.exmAny, h, k, allE, line1k, -gReprX]
theorem above_3 (H : KF K c) : g__law_is_caught_above K c [.int 3, v, .str t] M = .ok (.bl true) M := by
  have h := H.e3
  unfold Exm3 at h
  simp [g__law_is_caught_above, f__law_is_caught_above, raise_3, PySem.W.exmAny, h]
theorem own_4 (H : KF K c) : g__law_own_classes K c [.exn c.R ["index"] [v]] M = .ok (.lst [.bl true, .bl false, .bl false, .bl false, .bl true, .bl false, .bl false, .bl false, .bl false, .bl false, .bl false, .bl false, .bl false]) M := by
  have h := H.k4
  unfold Kit4 at h
  simp [g__law_own_classes, f__law_own_classes, allE, h, line1k]
theorem oth_4 (H : KF K c) : g__law_other_classes K c [.exn c.R ["index"] [v]] M = .ok (.lst [.bl true, .bl false, .bl false, .bl false, .bl false, .bl false, .bl false]) M := by
  have h := H.k4
  unfold Kit4 at h
  simp [g__law_other_classes, f__law_other_classes, allE, h, line1k]
theorem err_4 : g__law_error_of K c [.int 4, v, .str t] M = .ok (.exn c.R ["index"] [v]) M := by
  refine endI (ρ := [some (.int 4), some v, some (.str t)]) rfl ?_
  unfold f__law_error_of
  rw [goI (skipI (n := 4) (i := 1) rfl (by decide))]
  rw [goI (skipI (n := 4) (i := 2) rfl (by decide))]
  rw [goI (skipI (n := 4) (i := 3) rfl (by decide))]
  exact hitI (n := 4) rfl rfl
theorem kept_4 : g__law_kept_by K c [.int 4, .exn c.R ["index"] [v]] M = .ok (.lst [v]) M := by
  simp [g__law_kept_by, f__law_kept_by, line1k]
theorem raise_4 : g__law_raise K c [.int 4, v, .str t] M = .exc ⟨.ref c.R, some [("index", v)]⟩ M := by
  simp [g__law_raise, f__law_raise]
theorem caught_4 (H : KF K c) {s : Str} (hr : gReprX [v] M = .ok (.str s) M) : g__law_caught K c [.int 4, v, .str t] M = .ok (.lst [.int 4, .str s]) M := by
  have h := H.e4
  unfold Exm4 at h
  simp [g__law_caught, f__law_caught, raise_4, PySem.W.exmAny, h, hr, line1k, -gReprX]
theorem above_4 (H : KF K c) : g__law_is_caught_above K c [.int 4, v, .str t] M = .ok (.bl true) M := by
  have h := H.e4
  unfold Exm4 at h
  simp [g__law_is_caught_above, f__law_is_caught_above, raise_4, PySem.W.exmAny, h]
theorem own_5 (H : KF K c) : g__law_own_classes K c [.exn c.L [] []] M = .ok (.lst [.bl true, .bl false, .bl false, .bl false, .bl false, .bl true, .bl false, .bl false, .bl false, .bl false, .bl false, .bl false, .bl false]) M := by
  have h := H.k5
  unfold Kit5 at h
  simp [g__law_own_classes, f__law_own_classes, allE, h, line1k]
theorem oth_5 (H : KF K c) : g__law_other_classes K c [.exn c.L [] []] M = .ok (.lst [.bl true, .bl false, .bl false, .bl false, .bl false, .bl false, .bl false]) M := by
  have h := H.k5
  unfold Kit5 at h
  simp [g__law_other_classes, f__law_other_classes, allE, h, line1k]
theorem err_5 : g__law_error_of K c [.int 5, v, .str t] M = .ok (.exn c.L [] []) M := by
  refine endI (ρ := [some (.int 5), some v, some (.str t)]) rfl ?_
  unfold f__law_error_of
  rw [goI (skipI (n := 5) (i := 1) rfl (by decide))]
  rw [goI (skipI (n := 5) (i := 2) rfl (by decide))]
  rw [goI (skipI (n := 5) (i := 3) rfl (by decide))]
  rw [goI (skipI (n := 5) (i := 4) rfl (by decide))]
  exact hitI (n := 5) rfl rfl
theorem kept_5 : g__law_kept_by K c [.int 5, .exn c.L [] []] M = .ok (.lst []) M := by
  simp [g__law_kept_by, f__law_kept_by, line1k]
theorem raise_5 : g__law_raise K c [.int 5, v, .str t] M = .exc ⟨.ref c.L, none⟩ M := by
  simp [g__law_raise, f__law_raise]
theorem caught_5 (H : KF K c) : g__law_caught K c [.int 5, v, .str t] M = .ok (.lst [.int 5]) M := by
  have h := H.e5
  unfold Exm5 at h
  have k := H.k5
  unfold Kit5 at k
  simp [g__law_caught, f__law_caught, raise_5, PySem.W.exmAny, h, k, allE, line1k, -gReprX]
theorem above_5 (H : KF K c) : g__law_is_caught_above K c [.int 5, v, .str t] M = .ok (.bl true) M := by
  have h := H.e5
  unfold Exm5 at h
  simp [g__law_is_caught_above, f__law_is_caught_above, raise_5, PySem.W.exmAny, h]
theorem own_6 (H : KF K c) : g__law_own_classes K c [.exn c.O [] []] M = .ok (.lst [.bl true, .bl false, .bl false, .bl false, .bl false, .bl false, .bl true, .bl false, .bl false, .bl false, .bl false, .bl false, .bl false]) M := by
  have h := H.k6
  unfold Kit6 at h
  simp [g__law_own_classes, f__law_own_classes, allE, h, line1k]
theorem oth_6 (H : KF K c) : g__law_other_classes K c [.exn c.O [] []] M = .ok (.lst [.bl true, .bl false, .bl false, .bl false, .bl false, .bl false, .bl false]) M := by
  have h := H.k6
  unfold Kit6 at h
  simp [g__law_other_classes, f__law_other_classes, allE, h, line1k]
theorem err_6 : g__law_error_of K c [.int 6, v, .str t] M = .ok (.exn c.O [] []) M := by
  refine endI (ρ := [some (.int 6), some v, some (.str t)]) rfl ?_
  unfold f__law_error_of
  rw [goI (skipI (n := 6) (i := 1) rfl (by decide))]
  rw [goI (skipI (n := 6) (i := 2) rfl (by decide))]
  rw [goI (skipI (n := 6) (i := 3) rfl (by decide))]
  rw [goI (skipI (n := 6) (i := 4) rfl (by decide))]
  rw [goI (skipI (n := 6) (i := 5) rfl (by decide))]
  exact hitI (n := 6) rfl rfl
theorem kept_6 : g__law_kept_by K c [.int 6, .exn c.O [] []] M = .ok (.lst []) M := by
  simp [g__law_kept_by, f__law_kept_by, line1k]
theorem raise_6 : g__law_raise K c [.int 6, v, .str t] M = .exc ⟨.ref c.O, none⟩ M := by
  simp [g__law_raise, f__law_raise]
theorem caught_6 (H : KF K c) : g__law_caught K c [.int 6, v, .str t] M = .ok (.lst [.int 6]) M := by
  have h := H.e6
  unfold Exm6 at h
  have k := H.k6
  unfold Kit6 at k
  simp [g__law_caught, f__law_caught, raise_6, PySem.W.exmAny, h, k, allE, line1k, -gReprX]
theorem above_6 (H : KF K c) : g__law_is_caught_above K c [.int 6, v, .str t] M = .ok (.bl true) M := by
  have h := H.e6
  unfold Exm6 at h
  simp [g__law_is_caught_above, f__law_is_caught_above, raise_6, PySem.W.exmAny, h]
theorem own_7 (H : KF K c) : g__law_own_classes K c [.exn c.E ["line"] [v]] M = .ok (.lst [.bl true, .bl false, .bl false, .bl false, .bl false, .bl false, .bl false, .bl true, .bl false, .bl false, .bl false, .bl false, .bl false]) M := by
  have h := H.k7
  unfold Kit7 at h
  simp [g__law_own_classes, f__law_own_classes, allE, h, line1k]
theorem oth_7 (H : KF K c) : g__law_other_classes K c [.exn c.E ["line"] [v]] M = .ok (.lst [.bl true, .bl false, .bl false, .bl false, .bl false, .bl false, .bl false]) M := by
  have h := H.k7
  unfold Kit7 at h
  simp [g__law_other_classes, f__law_other_classes, allE, h, line1k]
theorem err_7 : g__law_error_of K c [.int 7, v, .str t] M = .ok (.exn c.E ["line"] [v]) M := by
  refine endI (ρ := [some (.int 7), some v, some (.str t)]) rfl ?_
  unfold f__law_error_of
  rw [goI (skipI (n := 7) (i := 1) rfl (by decide))]
  rw [goI (skipI (n := 7) (i := 2) rfl (by decide))]
  rw [goI (skipI (n := 7) (i := 3) rfl (by decide))]
  rw [goI (skipI (n := 7) (i := 4) rfl (by decide))]
  rw [goI (skipI (n := 7) (i := 5) rfl (by decide))]
  rw [goI (skipI (n := 7) (i := 6) rfl (by decide))]
  exact hitI (n := 7) rfl rfl
theorem kept_7 : g__law_kept_by K c [.int 7, .exn c.E ["line"] [v]] M = .ok (.lst [v]) M := by
  simp [g__law_kept_by, f__law_kept_by, line1k]
theorem raise_7 : g__law_raise K c [.int 7, v, .str t] M = .exc ⟨.ref c.E, some [("line", v)]⟩ M := by
  simp [g__law_raise, f__law_raise]
theorem caught_7 (H : KF K c) {s : Str} (hr : gReprX [v] M = .ok (.str s) M) : g__law_caught K c [.int 7, v, .str t] M = .ok (.lst [.int 7, .str s]) M := by
  have h := H.e7
  unfold Exm7 at h
  simp [g__law_caught, f__law_caught, raise_7, PySem.W.exmAny, h, hr, line1k, -gReprX]
theorem above_7 (H : KF K c) : g__law_is_caught_above K c [.int 7, v, .str t] M = .ok (.bl true) M := by
  have h := H.e7
  unfold Exm7 at h
  simp [g__law_is_caught_above, f__law_is_caught_above, raise_7, PySem.W.exmAny, h]
theorem own_8 (H : KF K c) : g__law_own_classes K c [.exn c.N ["value"] [v]] M = .ok (.lst [.bl false, .bl false, .bl false, .bl false, .bl false, .bl false, .bl false, .bl false, .bl true, .bl false, .bl false, .bl false, .bl false]) M := by
  have h := H.k8
  unfold Kit8 at h
  simp [g__law_own_classes, f__law_own_classes, allE, h, line1k]
theorem oth_8 (H : KF K c) : g__law_other_classes K c [.exn c.N ["value"] [v]] M = .ok (.lst [.bl false, .bl true, .bl true, .bl false, .bl false, .bl false, .bl false]) M := by
  have h := H.k8
  unfold Kit8 at h
  simp [g__law_other_classes, f__law_other_classes, allE, h, line1k]
theorem err_8 : g__law_error_of K c [.int 8, v, .str t] M = .ok (.exn c.N ["value"] [v]) M := by
  refine endI (ρ := [some (.int 8), some v, some (.str t)]) rfl ?_
  unfold f__law_error_of
  rw [goI (skipI (n := 8) (i := 1) rfl (by decide))]
  rw [goI (skipI (n := 8) (i := 2) rfl (by decide))]
  rw [goI (skipI (n := 8) (i := 3) rfl (by decide))]
  rw [goI (skipI (n := 8) (i := 4) rfl (by decide))]
  rw [goI (skipI (n := 8) (i := 5) rfl (by decide))]
  rw [goI (skipI (n := 8) (i := 6) rfl (by decide))]
  rw [goI (skipI (n := 8) (i := 7) rfl (by decide))]
  exact hitI (n := 8) rfl rfl
theorem kept_8 : g__law_kept_by K c [.int 8, .exn c.N ["value"] [v]] M = .ok (.lst [v]) M := by
  simp [g__law_kept_by, f__law_kept_by, line1k]
theorem raise_8 : g__law_raise K c [.int 8, v, .str t] M = .exc ⟨.ref c.N, some [("value", v)]⟩ M := by
  simp [g__law_raise, f__law_raise]
theorem caught_8 (H : KF K c) {s : Str} (hr : gReprX [v] M = .ok (.str s) M) : g__law_caught K c [.int 8, v, .str t] M = .ok (.lst [.int 8, .str s]) M := by
  have h := H.e8
  unfold Exm8 at h
  simp [g__law_caught, f__law_caught, raise_8, PySem.W.exmAny, h, hr, line1k, -gReprX]
theorem above_8 (H : KF K c) : g__law_is_caught_above K c [.int 8, v, .str t] M = .ok (.bl true) M := by
  have h := H.e8
  unfold Exm8 at h
  simp [g__law_is_caught_above, f__law_is_caught_above, raise_8, PySem.W.exmAny, h]
theorem own_9 (H : KF K c) : g__law_own_classes K c [.exn c.U ["name"] [v]] M = .ok (.lst [.bl false, .bl false, .bl false, .bl false, .bl false, .bl false, .bl false, .bl false, .bl false, .bl true, .bl false, .bl false, .bl false]) M := by
  have h := H.k9
  unfold Kit9 at h
  simp [g__law_own_classes, f__law_own_classes, allE, h, line1k]
theorem oth_9 (H : KF K c) : g__law_other_classes K c [.exn c.U ["name"] [v]] M = .ok (.lst [.bl false, .bl true, .bl false, .bl true, .bl false, .bl false, .bl false]) M := by
  have h := H.k9
  unfold Kit9 at h
  simp [g__law_other_classes, f__law_other_classes, allE, h, line1k]
theorem err_9 : g__law_error_of K c [.int 9, v, .str t] M = .ok (.exn c.U ["name"] [v]) M := by
  refine endI (ρ := [some (.int 9), some v, some (.str t)]) rfl ?_
  unfold f__law_error_of
  rw [goI (skipI (n := 9) (i := 1) rfl (by decide))]
  rw [goI (skipI (n := 9) (i := 2) rfl (by decide))]
  rw [goI (skipI (n := 9) (i := 3) rfl (by decide))]
  rw [goI (skipI (n := 9) (i := 4) rfl (by decide))]
  rw [goI (skipI (n := 9) (i := 5) rfl (by decide))]
  rw [goI (skipI (n := 9) (i := 6) rfl (by decide))]
  rw [goI (skipI (n := 9) (i := 7) rfl (by decide))]
  rw [goI (skipI (n := 9) (i := 8) rfl (by decide))]
  exact hitI (n := 9) rfl rfl
theorem kept_9 : g__law_kept_by K c [.int 9, .exn c.U ["name"] [v]] M = .ok (.lst [v]) M := by
  simp [g__law_kept_by, f__law_kept_by, line1k]
theorem raise_9 : g__law_raise K c [.int 9, v, .str t] M = .exc ⟨.ref c.U, some [("name", v)]⟩ M := by
  simp [g__law_raise, f__law_raise]
theorem caught_9 (H : KF K c) {s : Str} (hr : gReprX [v] M = .ok (.str s) M) : g__law_caught K c [.int 9, v, .str t] M = .ok (.lst [.int 9, .str s]) M := by
  have h := H.e9
  unfold Exm9 at h
  simp [g__law_caught, f__law_caught, raise_9, PySem.W.exmAny, h, hr, line1k, -gReprX]
theorem above_9 (H : KF K c) : g__law_is_caught_above K c [.int 9, v, .str t] M = .ok (.bl true) M := by
  have h := H.e9
  unfold Exm9 at h
  simp [g__law_is_caught_above, f__law_is_caught_above, raise_9, PySem.W.exmAny, h]
theorem own_10 (H : KF K c) : g__law_own_classes K c [.exn c.T ["limit"] [v]] M = .ok (.lst [.bl false, .bl false, .bl false, .bl false, .bl false, .bl false, .bl false, .bl false, .bl false, .bl false, .bl true, .bl false, .bl false]) M := by
  have h := H.k10
  unfold Kit10 at h
  simp [g__law_own_classes, f__law_own_classes, allE, h, line1k]
theorem oth_10 (H : KF K c) : g__law_other_classes K c [.exn c.T ["limit"] [v]] M = .ok (.lst [.bl false, .bl false, .bl false, .bl false, .bl true, .bl true, .bl false]) M := by
  have h := H.k10
  unfold Kit10 at h
  simp [g__law_other_classes, f__law_other_classes, allE, h, line1k]
theorem err_10 : g__law_error_of K c [.int 10, v, .str t] M = .ok (.exn c.T ["limit"] [v]) M := by
  refine endI (ρ := [some (.int 10), some v, some (.str t)]) rfl ?_
  unfold f__law_error_of
  rw [goI (skipI (n := 10) (i := 1) rfl (by decide))]
  rw [goI (skipI (n := 10) (i := 2) rfl (by decide))]
  rw [goI (skipI (n := 10) (i := 3) rfl (by decide))]
  rw [goI (skipI (n := 10) (i := 4) rfl (by decide))]
  rw [goI (skipI (n := 10) (i := 5) rfl (by decide))]
  rw [goI (skipI (n := 10) (i := 6) rfl (by decide))]
  rw [goI (skipI (n := 10) (i := 7) rfl (by decide))]
  rw [goI (skipI (n := 10) (i := 8) rfl (by decide))]
  rw [goI (skipI (n := 10) (i := 9) rfl (by decide))]
  exact hitI (n := 10) rfl rfl
theorem kept_10 : g__law_kept_by K c [.int 10, .exn c.T ["limit"] [v]] M = .ok (.lst [v]) M := by
  simp [g__law_kept_by, f__law_kept_by, line1k]
theorem raise_10 : g__law_raise K c [.int 10, v, .str t] M = .exc ⟨.ref c.T, some [("limit", v)]⟩ M := by
  simp [g__law_raise, f__law_raise]
theorem caught_10 (H : KF K c) {s : Str} (hr : gReprX [v] M = .ok (.str s) M) : g__law_caught K c [.int 10, v, .str t] M = .ok (.lst [.int 10, .str s]) M := by
  have h := H.e10
  unfold Exm10 at h
  simp [g__law_caught, f__law_caught, raise_10, PySem.W.exmAny, h, hr, line1k, -gReprX]
theorem above_10 (H : KF K c) : g__law_is_caught_above K c [.int 10, v, .str t] M = .ok (.bl true) M := by
  have h := H.e10
  unfold Exm10 at h
  simp [g__law_is_caught_above, f__law_is_caught_above, raise_10, PySem.W.exmAny, h]
theorem own_11 (H : KF K c) : g__law_own_classes K c [.exn c.B ["many"] [v]] M = .ok (.lst [.bl false, .bl false, .bl false, .bl false, .bl false, .bl false, .bl false, .bl false, .bl false, .bl false, .bl false, .bl true, .bl false]) M := by
  have h := H.k11
  unfold Kit11 at h
  simp [g__law_own_classes, f__law_own_classes, allE, h, line1k]
theorem oth_11 (H : KF K c) : g__law_other_classes K c [.exn c.B ["many"] [v]] M = .ok (.lst [.bl false, .bl true, .bl false, .bl false, .bl false, .bl false, .bl false]) M := by
  have h := H.k11
  unfold Kit11 at h
  simp [g__law_other_classes, f__law_other_classes, allE, h, line1k]
theorem err_11 : g__law_error_of K c [.int 11, v, .str t] M = .ok (.exn c.B ["many"] [v]) M := by
  refine endI (ρ := [some (.int 11), some v, some (.str t)]) rfl ?_
  unfold f__law_error_of
  rw [goI (skipI (n := 11) (i := 1) rfl (by decide))]
  rw [goI (skipI (n := 11) (i := 2) rfl (by decide))]
  rw [goI (skipI (n := 11) (i := 3) rfl (by decide))]
  rw [goI (skipI (n := 11) (i := 4) rfl (by decide))]
  rw [goI (skipI (n := 11) (i := 5) rfl (by decide))]
  rw [goI (skipI (n := 11) (i := 6) rfl (by decide))]
  rw [goI (skipI (n := 11) (i := 7) rfl (by decide))]
  rw [goI (skipI (n := 11) (i := 8) rfl (by decide))]
  rw [goI (skipI (n := 11) (i := 9) rfl (by decide))]
  rw [goI (skipI (n := 11) (i := 10) rfl (by decide))]
  simp
theorem kept_11 : g__law_kept_by K c [.int 11, .exn c.B ["many"] [v]] M = .ok (.lst [v]) M := by
  simp [g__law_kept_by, f__law_kept_by, line1k]
theorem raise_11 : g__law_raise K c [.int 11, v, .str t] M = .exc ⟨.ref c.B, some [("many", v)]⟩ M := by
  simp [g__law_raise, f__law_raise]
theorem caught_11 (H : KF K c) {s : Str} (hr : gReprX [v] M = .ok (.str s) M) : g__law_caught K c [.int 11, v, .str t] M = .ok (.lst [.int 11, .str s]) M := by
  have h := H.e11
  unfold Exm11 at h
  simp [g__law_caught, f__law_caught, raise_11, PySem.W.exmAny, h, hr, line1k, -gReprX]
theorem above_11 (H : KF K c) : g__law_is_caught_above K c [.int 11, v, .str t] M = .ok (.bl true) M := by
  have h := H.e11
  unfold Exm11 at h
  simp [g__law_is_caught_above, f__law_is_caught_above, raise_11, PySem.W.exmAny, h]
theorem own_12 (H : KF K c) : g__law_own_classes K c [.exn c.D ["place"] [v]] M = .ok (.lst [.bl false, .bl false, .bl false, .bl false, .bl false, .bl false, .bl false, .bl false, .bl false, .bl false, .bl false, .bl false, .bl true]) M := by
  have h := H.k12
  unfold Kit12 at h
  simp [g__law_own_classes, f__law_own_classes, allE, h, line1k]
theorem oth_12 (H : KF K c) : g__law_other_classes K c [.exn c.D ["place"] [v]] M = .ok (.lst [.bl false, .bl false, .bl false, .bl false, .bl true, .bl false, .bl false]) M := by
  have h := H.k12
  unfold Kit12 at h
  simp [g__law_other_classes, f__law_other_classes, allE, h, line1k]
theorem err_12 : g__law_error_of K c [.int 12, v, .str t] M = .ok (.exn c.D ["place"] [v]) M := by
  refine endI (ρ := [some (.int 12), some v, some (.str t)]) rfl ?_
  unfold f__law_error_of
  rw [goI (skipI (n := 12) (i := 1) rfl (by decide))]
  rw [goI (skipI (n := 12) (i := 2) rfl (by decide))]
  rw [goI (skipI (n := 12) (i := 3) rfl (by decide))]
  rw [goI (skipI (n := 12) (i := 4) rfl (by decide))]
  rw [goI (skipI (n := 12) (i := 5) rfl (by decide))]
  rw [goI (skipI (n := 12) (i := 6) rfl (by decide))]
  rw [goI (skipI (n := 12) (i := 7) rfl (by decide))]
  rw [goI (skipI (n := 12) (i := 8) rfl (by decide))]
  rw [goI (skipI (n := 12) (i := 9) rfl (by decide))]
  rw [goI (skipI (n := 12) (i := 10) rfl (by decide))]
  simp
theorem kept_12 : g__law_kept_by K c [.int 12, .exn c.D ["place"] [v]] M = .ok (.lst [v]) M := by
  simp [g__law_kept_by, f__law_kept_by, line1k]
theorem raise_12 : g__law_raise K c [.int 12, v, .str t] M = .exc ⟨.ref c.D, some [("place", v)]⟩ M := by
  simp [g__law_raise, f__law_raise]
theorem caught_12 (H : KF K c) {s : Str} (hr : gReprX [v] M = .ok (.str s) M) : g__law_caught K c [.int 12, v, .str t] M = .ok (.lst [.int 12, .str s]) M := by
  have h := H.e12
  unfold Exm12 at h
  simp [g__law_caught, f__law_caught, raise_12, PySem.W.exmAny, h, hr, line1k, -gReprX]
theorem above_12 (H : KF K c) : g__law_is_caught_above K c [.int 12, v, .str t] M = .ok (.bl true) M := by
  have h := H.e12
  unfold Exm12 at h
  simp [g__law_is_caught_above, f__law_is_caught_above, raise_12, PySem.W.exmAny, h]
end
end K01
namespace K01
open PySem PySem.Spec PyProof.Rows L2 Den
theorem app_len (a b : Str) : (a ++ b).length = a.length + b.length := by rw [cs_len, cs_len, cs_len, cs_app, List.length_append]
/-! ### data that can be told and compared -/
def Gd (k m : Nat) (d : D) : Prop := ∃ y, toPy d = some y ∧ y.showable = true ∧ y.hasDict = false ∧ y.canLay0 = true ∧ y.depth ≤ k ∧ y.shown.length ≤ m
theorem Gd.mono {k m k' m' : Nat} {d : D} (h : Gd k m d) (hk : k ≤ k') (hm : m ≤ m') : Gd k' m' d :=
  let ⟨y, a, b, c, e, f, g⟩ := h; ⟨y, a, b, c, e, Nat.le_trans f hk, Nat.le_trans g hm⟩
theorem gd_all {k m : Nat} : ∀ {ds : List D}, (∀ d ∈ ds, Gd k m d) → ∃ ys, toPys ds = some ys ∧ PyData.showableAll ys = true ∧ PyData.hasDictAll ys = false ∧ PyData.canLayAll0 ys = true ∧ PyData.depthAll ys ≤ k ∧ ys.length = ds.length ∧
    ((PyData.shownAll ys).map fun t => t.length + 2).sum ≤ ds.length * (m + 2) ∧ (PyData.shownAll ys).length = ds.length
  | [], _ => ⟨[], rfl, rfl, rfl, rfl, Nat.zero_le _, rfl, by simp [PyData.shownAll], rfl⟩
  | d :: ds, h => by
    obtain ⟨y, a1, a2, a3, a4, a5, a6⟩ := h d (List.mem_cons_self)
    obtain ⟨ys, b1, b2, b3, b4, b5, b6, b7, b8⟩ := gd_all (ds := ds) fun x hx => h x (List.mem_cons_of_mem _ hx)
    refine ⟨y :: ys, by simp [toPys, a1, b1], by simp [PyData.showableAll, a2, b2], by simp [PyData.hasDictAll, a3, b3], by simp [PyData.canLayAll0, a4, b4], ?_, by simp [b6], ?_, by simp [PyData.shownAll, b8]⟩
    · simp only [PyData.depthAll]
      exact Nat.max_le.mpr ⟨a5, b5⟩
    · simp only [PyData.shownAll, List.map_cons, List.sum_cons, List.length_cons]
      have : (ds.length + 1) * (m + 2) = ds.length * (m + 2) + (m + 2) := by rw [Nat.add_mul]; omega
      omega
theorem textFrom_le : ∀ (ts : List Str) (k : Nat) (acc : Str), (textFrom k acc ts).length ≤ acc.length + (ts.map fun t => t.length + 2).sum
  | [], k, acc => by simp [textFrom]
  | t :: ts, k, acc => by
    have ih := textFrom_le ts (k + 1) (acc ++ (if k > 0 then ", " else "" : String) ++ t)
    have e : (acc ++ (if k > 0 then ", " else "" : String) ++ t).length ≤ acc.length + (t.length + 2) := by
      rw [app_len, app_len]
      split
      · have : (Str.ofString ", ").length = 2 := by decide +kernel
        omega
      · have : (Str.ofString "").length = 0 := by decide +kernel
        omega
    show (textFrom (k + 1) _ ts).length ≤ _
    simp only [List.map_cons, List.sum_cons]
    omega
theorem listText_le (ts : List Str) : (listText ts).length ≤ (ts.map fun t => t.length + 2).sum + 2 := by
  unfold listText
  rw [app_len]
  have h := textFrom_le ts 0 "["
  have e1 : (Str.ofString "[").length = 1 := by decide +kernel
  have e2 : (Str.ofString "]").length = 1 := by decide +kernel
  omega
theorem join_le : ∀ ts : List Str, (Str.join (Str.ofString ", ") ts).length ≤ (ts.map fun t => t.length + 2).sum
  | [] => by simp [Str.join]; decide +kernel
  | [a] => by
    show a.length ≤ _
    simp
  | a :: b :: ts => by
    have ih := join_le (b :: ts)
    show (a ++ Str.ofString ", " ++ Str.join (Str.ofString ", ") (b :: ts)).length ≤ _
    rw [app_len, app_len]
    have : (Str.ofString ", ").length = 2 := by decide +kernel
    simp only [List.map_cons, List.sum_cons] at ih ⊢
    omega
theorem tupText_le (ts : List Str) : (tupleText ts).length ≤ (ts.map fun t => t.length + 2).sum + 3 := by
  unfold tupleText
  rw [app_len, app_len]
  have h := join_le ts
  have e1 : (Str.ofString "(").length = 1 := by decide +kernel
  split
  · have e2 : (Str.ofString ",)").length = 2 := by decide +kernel
    omega
  · have e2 : (Str.ofString ")").length = 1 := by decide +kernel
    omega
theorem gd_lst {k m n : Nat} {ds : List D} (h : ∀ d ∈ ds, Gd k m d) (hn : ds.length ≤ n) : Gd (k + 1) (n * (m + 2) + 3) (.lst ds) := by
  obtain ⟨ys, b1, b2, b3, b4, b5, b6, b7, b8⟩ := gd_all h
  refine ⟨.list ys, by simp [toPy, b1], by simp [PyData.showable, b2], by simp [PyData.hasDict, b3], by simp [PyData.canLay0, b4], by simp only [PyData.depth]; omega, ?_⟩
  show (listText (PyData.shownAll ys)).length ≤ _
  have := listText_le (PyData.shownAll ys)
  have := Nat.mul_le_mul_right (m + 2) hn
  omega
theorem gd_tup {k m n : Nat} {ds : List D} (h : ∀ d ∈ ds, Gd k m d) (hn : ds.length ≤ n) : Gd (k + 1) (n * (m + 2) + 3) (.tup ds) := by
  obtain ⟨ys, b1, b2, b3, b4, b5, b6, b7, b8⟩ := gd_all h
  refine ⟨.tuple ys, by simp [toPy, b1], by simp [PyData.showable, b2], by simp [PyData.hasDict, b3], by simp [PyData.canLay0, b4], by simp only [PyData.depth]; omega, ?_⟩
  show (tupleText (PyData.shownAll ys)).length ≤ _
  have := tupText_le (PyData.shownAll ys)
  have := Nat.mul_le_mul_right (m + 2) hn
  omega
theorem repr_gd {k m : Nat} {d : D} (h : Gd k m d) (hk : k ≤ 60) (hm : m ≤ 1000000) : ∃ s, ∀ M, gRepr [d] M = .ok (.str s) M := by
  obtain ⟨y, a1, a2, a3, a4, a5, a6⟩ := h
  refine ⟨y.shown, fun M => ?_⟩
  have eo : reprOk y = true := by
    unfold reprOk
    have h1 : decide (y.depth ≤ 60) = true := decide_eq_true (by omega)
    have h2 : decide (y.shown.length ≤ lineD) = true := decide_eq_true (by rw [lineD_eq]; omega)
    rw [a2, a3, h1, h2]; rfl
  show (match toPy d with
    | some y => if reprOk y = true then Out.ok (D.str y.shown) M else .no
    | none => .no) = _
  rw [a1]
  exact if_pos eo
theorem gd_shape {k m : Nat} {d : D} {y : PyData} (h : Gd k m d) (hk : k ≤ 60) (e : toPy d = some y) : SeqAt.shaped y = true := by
  obtain ⟨y', a1, a2, a3, a4, a5, a6⟩ := h
  rw [e] at a1; cases a1
  unfold SeqAt.shaped
  rw [a4, decide_eq_true (by omega)]; rfl
theorem gd_non : Gd 0 40 .non := ⟨.none, rfl, rfl, rfl, rfl, Nat.le_refl _, by decide +kernel⟩
theorem gd_bl (b : Bool) : Gd 0 40 (.bl b) := ⟨.bool b, rfl, rfl, rfl, rfl, Nat.le_refl _, by cases b <;> decide +kernel⟩
theorem gd_int {i : Int} (h : i.natAbs < 10 ^ 30) : Gd 0 40 (.int i) := by
  have h2 : i.natAbs.log2 < 1920 := by
    by_cases z : i.natAbs = 0
    · rw [z]; decide
    · exact (Nat.log2_lt z).mpr (Nat.lt_trans h (by decide +kernel))
  refine ⟨.int i, rfl, decide_eq_true h2, rfl, rfl, Nat.le_refl _, ?_⟩
  show (Str.ofString (toString i)).length ≤ 40
  have := int_text_length_le10 (a := i) (k := 30) (by decide) h
  rw [PySem.ofString_length]
  omega
theorem gd_lit {z : Str} (h1 : PyData.strOk z = true) (h2 : (reprText z).length ≤ 40) : Gd 0 40 (.str z) := ⟨.str z, rfl, rfl, rfl, h1, Nat.le_refl _, by rw [PyData.shown_str]; exact h2⟩
theorem gd_strOk {z : Str} {n : Nat} (h1 : PyData.strOk z = true) (h2 : z.length ≤ n) : Gd 0 (12 * n + 12) (.str z) := by
  refine ⟨.str z, rfl, rfl, rfl, h1, Nat.le_refl _, ?_⟩
  rw [PyData.shown_str]
  have := StrLaws.reprText_len z fun c q => by
    unfold PyData.strOk at h1
    rw [← Array.all_toList, List.all_eq_true] at h1
    have := of_decide_eq_true (h1 c q)
    have : (16 : Nat) ^ 8 = 4294967296 := by decide
    omega
  omega
theorem int_strOk (i : Int) : PyData.strOk (Str.ofString (toString i)) = true := by
  unfold PyData.strOk
  rw [Str.ofString_eq_toList, ← Array.all_toList, List.all_eq_true]
  intro c hc
  obtain ⟨d, hd, rfl⟩ := List.mem_map.mp (by simpa using hc : c ∈ (toString i).toList.map Char.toNat)
  have := int_ascii i d hd
  exact decide_eq_true (by omega)
/-- a value that an error may keep -/
def GV (v : D) : Prop := (∃ s : Str, (∀ M, gReprX [v] M = .ok (.str s) M) ∧ PyData.strOk s = true ∧ s.length ≤ 200) ∧ ∃ s : Str, ∀ M, gReprX [.lst [v]] M = .ok (.str s) M
theorem notD {d : D} {y : PyData} (h : toPy d = some y) : ∀ ks xs, d ≠ .dct ks xs := fun ks xs e => by subst e; cases h
theorem reprX1 {d : D} (h : ∀ ks xs, d ≠ .dct ks xs) (h2 : ∀ d2, d = .lst [d2] → ∀ ks xs, d2 ≠ .dct ks xs) (M : Mem) : gReprX [d] M = gRepr [d] M := by
  unfold gReprX
  split
  · rename_i e
    have e' := List.cons.inj e
    exact absurd e'.1 (h _ _)
  · rename_i e
    have e' := List.cons.inj e
    exact absurd rfl (h2 _ e'.1 _ _)
  · rfl
theorem gv_of {m : Nat} {d : D} {y : PyData} (hy : toPy d = some y) (h : Gd 1 m d) (hm : m ≤ 200) (hs : PyData.strOk y.shown = true) (h2 : ∀ d2, d = .lst [d2] → ∀ ks xs, d2 ≠ .dct ks xs) : GV d := by
  have nd := notD hy
  obtain ⟨t, e2⟩ := repr_gd (gd_lst (n := 1) (ds := [d]) (fun x hx => by rw [List.mem_singleton.mp hx]; exact h) (by simp)) (by omega) (by omega)
  obtain ⟨y', a1, a2, a3, a4, a5, a6⟩ := h
  rw [hy] at a1; cases a1
  refine ⟨⟨y.shown, fun M => (reprX1 nd h2 M).trans ?_, hs, Nat.le_trans a6 hm⟩, t, fun M => (reprX1 (by intro _ _ e; cases e) (fun d2 e => by cases e; exact nd) M).trans (e2 M)⟩
  have eo : reprOk y = true := by
    unfold reprOk
    have h1 : decide (y.depth ≤ 60) = true := decide_eq_true (by omega)
    have h2 : decide (y.shown.length ≤ lineD) = true := decide_eq_true (by rw [lineD_eq]; omega)
    rw [a2, a3, h1, h2]; rfl
  show (match toPy d with
    | some y => if reprOk y = true then Out.ok (D.str y.shown) M else .no
    | none => .no) = _
  rw [hy]
  exact if_pos eo
theorem gv_dct : GV (.dct [] []) := ⟨⟨"{}", fun M => rfl, by decide +kernel, by decide +kernel⟩, "[{}]", fun M => rfl⟩
/-- a list is not unlike itself -/
theorem ne_self {ds : List D} {k m : Nat} (h : Gd k m (.lst ds)) (hk : k ≤ 60) (M : Mem) : gNe (.lst ds) (.lst ds) M = .ok (.bl false) M := by
  obtain ⟨y, a1, a2, a3, a4, a5, a6⟩ := id h
  have s1 := gd_shape h hk a1
  show (match toPy (.lst ds), toPy (.lst ds) with
    | some p, some q => if SeqAt.shaped p = true ∧ SeqAt.shaped q = true then Out.ok (D.bl (!(PyData.eqv p q))) M else .no
    | _, _ => .no) = _
  rw [a1]
  dsimp only
  rw [if_pos ⟨s1, s1⟩, SeqAt.eqv_refl y a4]
  rfl
end K01
namespace K01
open PySem PySem.Spec PyProof.Rows L2 Den
theorem rg1 (a : Int) (q : -1000000000 ≤ a ∧ a ≤ 1000000000) (M : Mem) : gRg1 [.int a] M = .ok (rangeD 0 a) M := if_pos q
theorem rg2 (a b : Int) (q : (-1000000000 ≤ a ∧ a ≤ 1000000000) ∧ -1000000000 ≤ b ∧ b ≤ 1000000000) (M : Mem) : gRg2 [.int a, .int b] M = .ok (rangeD a b) M := if_pos q
theorem for_eq {fi : FI} {g : TgD} {b : FS} {ρ : Ro} {M M1 : Mem} {xs : List D} {o : Out Fl} (h : fi ρ M = .ok xs M1) (e : loopD g b xs ρ M1 = o) : sFor fi g b ρ M = o := by unfold sFor; rw [h]; exact e
theorem sq {a b : FS} {ρ ρ1 : Ro} {M M1 : Mem} (h : a ρ M = .ok (.nx ρ1) M1) : sSeq a b ρ M = b ρ1 M1 := by simp [h, Out.then]
theorem lc_eq {fi : FI} {g : TgD} {vs : List Nat} {t : FT} {f : FE} {ρ : Ro} {M M1 M2 : Mem} {xs ys : List D} (h : fi ρ M = .ok xs M1) (hl : xs.length ≤ lineD) (e : lcD g t f (wipeD ρ vs) xs M1 = .ok ys M2) : eLc fi g vs t f ρ M = .ok (.lst ys) M2 := by
  unfold eLc; rw [h, Out.bind_ok, if_pos hl, e]; rfl
theorem r13 : rangeD 1 13 = [.int 1, .int 2, .int 3, .int 4, .int 5, .int 6, .int 7, .int 8, .int 9, .int 10, .int 11, .int 12] := rfl
theorem r7 : rangeD 0 7 = [.int 0, .int 1, .int 2, .int 3, .int 4, .int 5, .int 6] := rfl
theorem r2 : rangeD 0 2 = [.int 0, .int 1] := rfl
/-! ### the drawn values -/
theorem ten30 : ∃ p : Int, p = 10 ^ 30 ∧ ∀ M, gPow (.int 10) (.int 30) M = .ok (.int p) M := ⟨10 ^ (30 : Int).toNat, by decide +kernel, fun M => pow_ok (by decide +kernel)⟩
theorem gv_int {r : Int} (h : r.natAbs < 10 ^ 30) : GV (.int r) := gv_of rfl ((gd_int h).mono (by decide) (Nat.le_refl _)) (by decide) (int_strOk r) (by intro _ e; cases e)
theorem in89 (a : Int) : inV (V.int a) [V.int 8, V.int 9] = (decide (a = 8) || decide (a = 9)) := by
  show (decide (8 = a) || (decide (9 = a) || false)) = _
  rw [Bool.or_false, show decide (8 = a) = decide (a = 8) from decide_eq_decide.mpr eq_comm, show decide (9 = a) = decide (a = 9) from decide_eq_decide.mpr eq_comm]
theorem value_ok {M : Mem} {n : Nat} {a : Int} (h : Stk M n) : ∃ (v : D) (M' : Mem), g__law_value_of [.loc n, .int a] M = .ok v M' ∧ GV v ∧ Stk M' n := by
  obtain ⟨p, hp, ep⟩ := ten30
  have pp : (p : Int) = 1000000000000000000000000000000 := hp.trans (by decide +kernel)
  obtain ⟨r, M1, e1, r0, r1, s1, _⟩ := draw_ok h (t := p) (by rw [pp]; decide) (by rw [pp]; decide +kernel)
  have nr : r.natAbs < 10 ^ 30 := by
    have : (10 : Nat) ^ 30 = 1000000000000000000000000000000 := by decide +kernel
    omega
  have hr : GV (.int r) := gv_int nr
  have hn : GV (.int (-r)) := gv_int (by have : (-r).natAbs = r.natAbs := by omega
                                         omega)
  let odd : List D := [.int r, .int (-r), .bl true, .non, .str "", .str "zz", .tup [], .tup [.int 0, .str "a"], .lst [.str "a"], .dct [] [], .int 0]
  have ga : Gd 0 40 (.str "a") := gd_lit (by decide +kernel) (by decide +kernel)
  have gi : Gd 0 40 (.int 0) := gd_int (by decide)
  have all : ∀ d ∈ odd, GV d := by
    intro d hd
    simp only [odd, List.mem_cons, List.not_mem_nil, or_false] at hd
    rcases hd with rfl | rfl | rfl | rfl | rfl | rfl | rfl | rfl | rfl | rfl | rfl
    · exact hr
    · exact hn
    · exact gv_of (y := .bool true) rfl ((gd_bl true).mono (by decide) (Nat.le_refl _)) (by decide) (by decide +kernel) (by intro _ e; cases e)
    · exact gv_of (y := .none) rfl (gd_non.mono (by decide) (Nat.le_refl _)) (by decide) (by decide +kernel) (by intro _ e; cases e)
    · exact gv_of (y := .str "") rfl ((gd_lit (z := "") (by decide +kernel) (by decide +kernel)).mono (by decide) (Nat.le_refl _)) (by decide) (by decide +kernel) (by intro _ e; cases e)
    · exact gv_of (y := .str "zz") rfl ((gd_lit (z := "zz") (by decide +kernel) (by decide +kernel)).mono (by decide) (Nat.le_refl _)) (by decide) (by decide +kernel) (by intro _ e; cases e)
    · exact gv_of (y := .tuple []) rfl (gd_tup (k := 0) (m := 40) (n := 0) (ds := []) (fun d hd => by cases hd) (Nat.le_refl _)) (by decide) (by decide +kernel) (by intro _ e; cases e)
    · exact gv_of (y := .tuple [.int 0, .str "a"]) rfl (gd_tup (k := 0) (m := 40) (n := 2) (ds := [.int 0, .str "a"]) (fun d hd => by
        simp only [List.mem_cons, List.not_mem_nil, or_false] at hd
        rcases hd with rfl | rfl
        · exact gi
        · exact ga) (Nat.le_refl _)) (by decide) (by decide +kernel) (by intro _ e; cases e)
    · exact gv_of (y := .list [.str "a"]) rfl (gd_lst (k := 0) (m := 40) (n := 1) (ds := [.str "a"]) (fun d hd => by rw [List.mem_singleton.mp hd]; exact ga) (Nat.le_refl _)) (by decide) (by decide +kernel) (by intro d2 e; cases e; intro _ _ z; cases z)
    · exact gv_dct
    · exact gv_of (y := .int 0) rfl (gi.mono (by decide) (Nat.le_refl _)) (by decide) (by decide +kernel) (by intro _ e; cases e)
  obtain ⟨d, M2, e2, hd, s2, _⟩ := pick_ok s1 (xs := odd) (by simp [odd]) (by simp [odd])
  by_cases h8 : a = 8 ∨ a = 9
  · refine ⟨d, M2, ?_, all d hd, s2⟩
    have e2' : g__law_pick [.loc n, .lst [.int r, .int (-r), .bl true, .non, .str "", .str "zz", .tup [], .tup [.int 0, .str "a"], .lst [.str "a"], .dct [] [], .int 0]] M1 = .ok d M2 := e2
    rcases h8 with rfl | rfl <;> simp [g__law_value_of, f__law_value_of, ep, e1, e2', in89, line1k]
  · refine ⟨.int r, M1, ?_, hr, s1⟩
    simp only [not_or] at h8
    simp [g__law_value_of, f__law_value_of, ep, e1, in89, h8.1, h8.2, line1k]
/-! ### the due classes -/
section
variable {M : Mem}
theorem due_1 : g__law_due_classes [.int 1] M = .ok (.lst [.lst [.bl true, .bl true, .bl false, .bl false, .bl false, .bl false, .bl false, .bl false, .bl false, .bl false, .bl false, .bl false, .bl false], .lst [.bl true, .bl false, .bl false, .bl false, .bl false, .bl false, .bl false]]) M := by
  have e1 : ∀ ρ : Ro, ρ = [some (.int 1), none, none, none] → ∀ M, eLc (iRg2 (aCons (eInt 1) (aCons (eInt 13) aNil))) (gNm 3) [3] tTrue (eTwo gEq (eVar 3) (eVar 0)) ρ M = .ok (.lst [.bl true, .bl false, .bl false, .bl false, .bl false, .bl false, .bl false, .bl false, .bl false, .bl false, .bl false, .bl false]) M := by
    rintro ρ rfl M
    refine lc_eq (M1 := M) (rg2 1 13 (by decide) M) (line1k (by decide)) ?_
    rw [r13]
    rfl
  have e2 : ∀ x y, ∀ M, eLc (iRg1 (aCons (eInt 7) aNil)) (gNm 3) [3] tTrue (eTwo (gInS fun b => b) (eVar 3) (eVar 2)) [some (.int 1), some x, some (.lst [.int 0]), y] M = .ok (.lst [.bl true, .bl false, .bl false, .bl false, .bl false, .bl false, .bl false]) M := by
    intro x y M
    refine lc_eq (M1 := M) (rg1 7 (by decide) M) (line1k (by decide)) ?_
    rw [r7]
    simp [lcD, wipeD, toV, toVs, flatV, inV, eqV]
  simp [g__law_due_classes, f__law_due_classes, dval, e1 _ rfl, e2, line1k, -eLc]
theorem due_2 : g__law_due_classes [.int 2] M = .ok (.lst [.lst [.bl true, .bl false, .bl true, .bl false, .bl false, .bl false, .bl false, .bl false, .bl false, .bl false, .bl false, .bl false, .bl false], .lst [.bl true, .bl false, .bl false, .bl false, .bl false, .bl false, .bl false]]) M := by
  have e1 : ∀ ρ : Ro, ρ = [some (.int 2), none, none, none] → ∀ M, eLc (iRg2 (aCons (eInt 1) (aCons (eInt 13) aNil))) (gNm 3) [3] tTrue (eTwo gEq (eVar 3) (eVar 0)) ρ M = .ok (.lst [.bl false, .bl true, .bl false, .bl false, .bl false, .bl false, .bl false, .bl false, .bl false, .bl false, .bl false, .bl false]) M := by
    rintro ρ rfl M
    refine lc_eq (M1 := M) (rg2 1 13 (by decide) M) (line1k (by decide)) ?_
    rw [r13]
    rfl
  have e2 : ∀ x y, ∀ M, eLc (iRg1 (aCons (eInt 7) aNil)) (gNm 3) [3] tTrue (eTwo (gInS fun b => b) (eVar 3) (eVar 2)) [some (.int 2), some x, some (.lst [.int 0]), y] M = .ok (.lst [.bl true, .bl false, .bl false, .bl false, .bl false, .bl false, .bl false]) M := by
    intro x y M
    refine lc_eq (M1 := M) (rg1 7 (by decide) M) (line1k (by decide)) ?_
    rw [r7]
    simp [lcD, wipeD, toV, toVs, flatV, inV, eqV]
  simp [g__law_due_classes, f__law_due_classes, dval, e1 _ rfl, e2, line1k, -eLc]
theorem due_3 : g__law_due_classes [.int 3] M = .ok (.lst [.lst [.bl true, .bl false, .bl false, .bl true, .bl false, .bl false, .bl false, .bl false, .bl false, .bl false, .bl false, .bl false, .bl false], .lst [.bl true, .bl false, .bl false, .bl false, .bl false, .bl false, .bl false]]) M := by
  have e1 : ∀ ρ : Ro, ρ = [some (.int 3), none, none, none] → ∀ M, eLc (iRg2 (aCons (eInt 1) (aCons (eInt 13) aNil))) (gNm 3) [3] tTrue (eTwo gEq (eVar 3) (eVar 0)) ρ M = .ok (.lst [.bl false, .bl false, .bl true, .bl false, .bl false, .bl false, .bl false, .bl false, .bl false, .bl false, .bl false, .bl false]) M := by
    rintro ρ rfl M
    refine lc_eq (M1 := M) (rg2 1 13 (by decide) M) (line1k (by decide)) ?_
    rw [r13]
    rfl
  have e2 : ∀ x y, ∀ M, eLc (iRg1 (aCons (eInt 7) aNil)) (gNm 3) [3] tTrue (eTwo (gInS fun b => b) (eVar 3) (eVar 2)) [some (.int 3), some x, some (.lst [.int 0]), y] M = .ok (.lst [.bl true, .bl false, .bl false, .bl false, .bl false, .bl false, .bl false]) M := by
    intro x y M
    refine lc_eq (M1 := M) (rg1 7 (by decide) M) (line1k (by decide)) ?_
    rw [r7]
    simp [lcD, wipeD, toV, toVs, flatV, inV, eqV]
  simp [g__law_due_classes, f__law_due_classes, dval, e1 _ rfl, e2, line1k, -eLc]
theorem due_4 : g__law_due_classes [.int 4] M = .ok (.lst [.lst [.bl true, .bl false, .bl false, .bl false, .bl true, .bl false, .bl false, .bl false, .bl false, .bl false, .bl false, .bl false, .bl false], .lst [.bl true, .bl false, .bl false, .bl false, .bl false, .bl false, .bl false]]) M := by
  have e1 : ∀ ρ : Ro, ρ = [some (.int 4), none, none, none] → ∀ M, eLc (iRg2 (aCons (eInt 1) (aCons (eInt 13) aNil))) (gNm 3) [3] tTrue (eTwo gEq (eVar 3) (eVar 0)) ρ M = .ok (.lst [.bl false, .bl false, .bl false, .bl true, .bl false, .bl false, .bl false, .bl false, .bl false, .bl false, .bl false, .bl false]) M := by
    rintro ρ rfl M
    refine lc_eq (M1 := M) (rg2 1 13 (by decide) M) (line1k (by decide)) ?_
    rw [r13]
    rfl
  have e2 : ∀ x y, ∀ M, eLc (iRg1 (aCons (eInt 7) aNil)) (gNm 3) [3] tTrue (eTwo (gInS fun b => b) (eVar 3) (eVar 2)) [some (.int 4), some x, some (.lst [.int 0]), y] M = .ok (.lst [.bl true, .bl false, .bl false, .bl false, .bl false, .bl false, .bl false]) M := by
    intro x y M
    refine lc_eq (M1 := M) (rg1 7 (by decide) M) (line1k (by decide)) ?_
    rw [r7]
    simp [lcD, wipeD, toV, toVs, flatV, inV, eqV]
  simp [g__law_due_classes, f__law_due_classes, dval, e1 _ rfl, e2, line1k, -eLc]
theorem due_5 : g__law_due_classes [.int 5] M = .ok (.lst [.lst [.bl true, .bl false, .bl false, .bl false, .bl false, .bl true, .bl false, .bl false, .bl false, .bl false, .bl false, .bl false, .bl false], .lst [.bl true, .bl false, .bl false, .bl false, .bl false, .bl false, .bl false]]) M := by
  have e1 : ∀ ρ : Ro, ρ = [some (.int 5), none, none, none] → ∀ M, eLc (iRg2 (aCons (eInt 1) (aCons (eInt 13) aNil))) (gNm 3) [3] tTrue (eTwo gEq (eVar 3) (eVar 0)) ρ M = .ok (.lst [.bl false, .bl false, .bl false, .bl false, .bl true, .bl false, .bl false, .bl false, .bl false, .bl false, .bl false, .bl false]) M := by
    rintro ρ rfl M
    refine lc_eq (M1 := M) (rg2 1 13 (by decide) M) (line1k (by decide)) ?_
    rw [r13]
    rfl
  have e2 : ∀ x y, ∀ M, eLc (iRg1 (aCons (eInt 7) aNil)) (gNm 3) [3] tTrue (eTwo (gInS fun b => b) (eVar 3) (eVar 2)) [some (.int 5), some x, some (.lst [.int 0]), y] M = .ok (.lst [.bl true, .bl false, .bl false, .bl false, .bl false, .bl false, .bl false]) M := by
    intro x y M
    refine lc_eq (M1 := M) (rg1 7 (by decide) M) (line1k (by decide)) ?_
    rw [r7]
    simp [lcD, wipeD, toV, toVs, flatV, inV, eqV]
  simp [g__law_due_classes, f__law_due_classes, dval, e1 _ rfl, e2, line1k, -eLc]
theorem due_6 : g__law_due_classes [.int 6] M = .ok (.lst [.lst [.bl true, .bl false, .bl false, .bl false, .bl false, .bl false, .bl true, .bl false, .bl false, .bl false, .bl false, .bl false, .bl false], .lst [.bl true, .bl false, .bl false, .bl false, .bl false, .bl false, .bl false]]) M := by
  have e1 : ∀ ρ : Ro, ρ = [some (.int 6), none, none, none] → ∀ M, eLc (iRg2 (aCons (eInt 1) (aCons (eInt 13) aNil))) (gNm 3) [3] tTrue (eTwo gEq (eVar 3) (eVar 0)) ρ M = .ok (.lst [.bl false, .bl false, .bl false, .bl false, .bl false, .bl true, .bl false, .bl false, .bl false, .bl false, .bl false, .bl false]) M := by
    rintro ρ rfl M
    refine lc_eq (M1 := M) (rg2 1 13 (by decide) M) (line1k (by decide)) ?_
    rw [r13]
    rfl
  have e2 : ∀ x y, ∀ M, eLc (iRg1 (aCons (eInt 7) aNil)) (gNm 3) [3] tTrue (eTwo (gInS fun b => b) (eVar 3) (eVar 2)) [some (.int 6), some x, some (.lst [.int 0]), y] M = .ok (.lst [.bl true, .bl false, .bl false, .bl false, .bl false, .bl false, .bl false]) M := by
    intro x y M
    refine lc_eq (M1 := M) (rg1 7 (by decide) M) (line1k (by decide)) ?_
    rw [r7]
    simp [lcD, wipeD, toV, toVs, flatV, inV, eqV]
  simp [g__law_due_classes, f__law_due_classes, dval, e1 _ rfl, e2, line1k, -eLc]
theorem due_7 : g__law_due_classes [.int 7] M = .ok (.lst [.lst [.bl true, .bl false, .bl false, .bl false, .bl false, .bl false, .bl false, .bl true, .bl false, .bl false, .bl false, .bl false, .bl false], .lst [.bl true, .bl false, .bl false, .bl false, .bl false, .bl false, .bl false]]) M := by
  have e1 : ∀ ρ : Ro, ρ = [some (.int 7), none, none, none] → ∀ M, eLc (iRg2 (aCons (eInt 1) (aCons (eInt 13) aNil))) (gNm 3) [3] tTrue (eTwo gEq (eVar 3) (eVar 0)) ρ M = .ok (.lst [.bl false, .bl false, .bl false, .bl false, .bl false, .bl false, .bl true, .bl false, .bl false, .bl false, .bl false, .bl false]) M := by
    rintro ρ rfl M
    refine lc_eq (M1 := M) (rg2 1 13 (by decide) M) (line1k (by decide)) ?_
    rw [r13]
    rfl
  have e2 : ∀ x y, ∀ M, eLc (iRg1 (aCons (eInt 7) aNil)) (gNm 3) [3] tTrue (eTwo (gInS fun b => b) (eVar 3) (eVar 2)) [some (.int 7), some x, some (.lst [.int 0]), y] M = .ok (.lst [.bl true, .bl false, .bl false, .bl false, .bl false, .bl false, .bl false]) M := by
    intro x y M
    refine lc_eq (M1 := M) (rg1 7 (by decide) M) (line1k (by decide)) ?_
    rw [r7]
    simp [lcD, wipeD, toV, toVs, flatV, inV, eqV]
  simp [g__law_due_classes, f__law_due_classes, dval, e1 _ rfl, e2, line1k, -eLc]
theorem due_8 : g__law_due_classes [.int 8] M = .ok (.lst [.lst [.bl false, .bl false, .bl false, .bl false, .bl false, .bl false, .bl false, .bl false, .bl true, .bl false, .bl false, .bl false, .bl false], .lst [.bl false, .bl true, .bl true, .bl false, .bl false, .bl false, .bl false]]) M := by
  have e1 : ∀ ρ : Ro, ρ = [some (.int 8), none, none, none] → ∀ M, eLc (iRg2 (aCons (eInt 1) (aCons (eInt 13) aNil))) (gNm 3) [3] tTrue (eTwo gEq (eVar 3) (eVar 0)) ρ M = .ok (.lst [.bl false, .bl false, .bl false, .bl false, .bl false, .bl false, .bl false, .bl true, .bl false, .bl false, .bl false, .bl false]) M := by
    rintro ρ rfl M
    refine lc_eq (M1 := M) (rg2 1 13 (by decide) M) (line1k (by decide)) ?_
    rw [r13]
    rfl
  have e2 : ∀ x y, ∀ M, eLc (iRg1 (aCons (eInt 7) aNil)) (gNm 3) [3] tTrue (eTwo (gInS fun b => b) (eVar 3) (eVar 2)) [some (.int 8), some x, some (.lst [.int 1, .int 2]), y] M = .ok (.lst [.bl false, .bl true, .bl true, .bl false, .bl false, .bl false, .bl false]) M := by
    intro x y M
    refine lc_eq (M1 := M) (rg1 7 (by decide) M) (line1k (by decide)) ?_
    rw [r7]
    simp [lcD, wipeD, toV, toVs, flatV, inV, eqV]
  simp [g__law_due_classes, f__law_due_classes, dval, e1 _ rfl, e2, line1k, -eLc]
theorem due_9 : g__law_due_classes [.int 9] M = .ok (.lst [.lst [.bl false, .bl false, .bl false, .bl false, .bl false, .bl false, .bl false, .bl false, .bl false, .bl true, .bl false, .bl false, .bl false], .lst [.bl false, .bl true, .bl false, .bl true, .bl false, .bl false, .bl false]]) M := by
  have e1 : ∀ ρ : Ro, ρ = [some (.int 9), none, none, none] → ∀ M, eLc (iRg2 (aCons (eInt 1) (aCons (eInt 13) aNil))) (gNm 3) [3] tTrue (eTwo gEq (eVar 3) (eVar 0)) ρ M = .ok (.lst [.bl false, .bl false, .bl false, .bl false, .bl false, .bl false, .bl false, .bl false, .bl true, .bl false, .bl false, .bl false]) M := by
    rintro ρ rfl M
    refine lc_eq (M1 := M) (rg2 1 13 (by decide) M) (line1k (by decide)) ?_
    rw [r13]
    rfl
  have e2 : ∀ x y, ∀ M, eLc (iRg1 (aCons (eInt 7) aNil)) (gNm 3) [3] tTrue (eTwo (gInS fun b => b) (eVar 3) (eVar 2)) [some (.int 9), some x, some (.lst [.int 1, .int 3]), y] M = .ok (.lst [.bl false, .bl true, .bl false, .bl true, .bl false, .bl false, .bl false]) M := by
    intro x y M
    refine lc_eq (M1 := M) (rg1 7 (by decide) M) (line1k (by decide)) ?_
    rw [r7]
    simp [lcD, wipeD, toV, toVs, flatV, inV, eqV]
  simp [g__law_due_classes, f__law_due_classes, dval, e1 _ rfl, e2, line1k, -eLc]
theorem due_10 : g__law_due_classes [.int 10] M = .ok (.lst [.lst [.bl false, .bl false, .bl false, .bl false, .bl false, .bl false, .bl false, .bl false, .bl false, .bl false, .bl true, .bl false, .bl false], .lst [.bl false, .bl false, .bl false, .bl false, .bl true, .bl true, .bl false]]) M := by
  have e1 : ∀ ρ : Ro, ρ = [some (.int 10), none, none, none] → ∀ M, eLc (iRg2 (aCons (eInt 1) (aCons (eInt 13) aNil))) (gNm 3) [3] tTrue (eTwo gEq (eVar 3) (eVar 0)) ρ M = .ok (.lst [.bl false, .bl false, .bl false, .bl false, .bl false, .bl false, .bl false, .bl false, .bl false, .bl true, .bl false, .bl false]) M := by
    rintro ρ rfl M
    refine lc_eq (M1 := M) (rg2 1 13 (by decide) M) (line1k (by decide)) ?_
    rw [r13]
    rfl
  have e2 : ∀ x y, ∀ M, eLc (iRg1 (aCons (eInt 7) aNil)) (gNm 3) [3] tTrue (eTwo (gInS fun b => b) (eVar 3) (eVar 2)) [some (.int 10), some x, some (.lst [.int 4, .int 5]), y] M = .ok (.lst [.bl false, .bl false, .bl false, .bl false, .bl true, .bl true, .bl false]) M := by
    intro x y M
    refine lc_eq (M1 := M) (rg1 7 (by decide) M) (line1k (by decide)) ?_
    rw [r7]
    simp [lcD, wipeD, toV, toVs, flatV, inV, eqV]
  simp [g__law_due_classes, f__law_due_classes, dval, e1 _ rfl, e2, line1k, -eLc]
theorem due_11 : g__law_due_classes [.int 11] M = .ok (.lst [.lst [.bl false, .bl false, .bl false, .bl false, .bl false, .bl false, .bl false, .bl false, .bl false, .bl false, .bl false, .bl true, .bl false], .lst [.bl false, .bl true, .bl false, .bl false, .bl false, .bl false, .bl false]]) M := by
  have e1 : ∀ ρ : Ro, ρ = [some (.int 11), none, none, none] → ∀ M, eLc (iRg2 (aCons (eInt 1) (aCons (eInt 13) aNil))) (gNm 3) [3] tTrue (eTwo gEq (eVar 3) (eVar 0)) ρ M = .ok (.lst [.bl false, .bl false, .bl false, .bl false, .bl false, .bl false, .bl false, .bl false, .bl false, .bl false, .bl true, .bl false]) M := by
    rintro ρ rfl M
    refine lc_eq (M1 := M) (rg2 1 13 (by decide) M) (line1k (by decide)) ?_
    rw [r13]
    rfl
  have e2 : ∀ x y, ∀ M, eLc (iRg1 (aCons (eInt 7) aNil)) (gNm 3) [3] tTrue (eTwo (gInS fun b => b) (eVar 3) (eVar 2)) [some (.int 11), some x, some (.lst [.int 1]), y] M = .ok (.lst [.bl false, .bl true, .bl false, .bl false, .bl false, .bl false, .bl false]) M := by
    intro x y M
    refine lc_eq (M1 := M) (rg1 7 (by decide) M) (line1k (by decide)) ?_
    rw [r7]
    simp [lcD, wipeD, toV, toVs, flatV, inV, eqV]
  simp [g__law_due_classes, f__law_due_classes, dval, e1 _ rfl, e2, line1k, -eLc]
theorem due_12 : g__law_due_classes [.int 12] M = .ok (.lst [.lst [.bl false, .bl false, .bl false, .bl false, .bl false, .bl false, .bl false, .bl false, .bl false, .bl false, .bl false, .bl false, .bl true], .lst [.bl false, .bl false, .bl false, .bl false, .bl true, .bl false, .bl false]]) M := by
  have e1 : ∀ ρ : Ro, ρ = [some (.int 12), none, none, none] → ∀ M, eLc (iRg2 (aCons (eInt 1) (aCons (eInt 13) aNil))) (gNm 3) [3] tTrue (eTwo gEq (eVar 3) (eVar 0)) ρ M = .ok (.lst [.bl false, .bl false, .bl false, .bl false, .bl false, .bl false, .bl false, .bl false, .bl false, .bl false, .bl false, .bl true]) M := by
    rintro ρ rfl M
    refine lc_eq (M1 := M) (rg2 1 13 (by decide) M) (line1k (by decide)) ?_
    rw [r13]
    rfl
  have e2 : ∀ x y, ∀ M, eLc (iRg1 (aCons (eInt 7) aNil)) (gNm 3) [3] tTrue (eTwo (gInS fun b => b) (eVar 3) (eVar 2)) [some (.int 12), some x, some (.lst [.int 4]), y] M = .ok (.lst [.bl false, .bl false, .bl false, .bl false, .bl true, .bl false, .bl false]) M := by
    intro x y M
    refine lc_eq (M1 := M) (rg1 7 (by decide) M) (line1k (by decide)) ?_
    rw [r7]
    simp [lcD, wipeD, toV, toVs, flatV, inV, eqV]
  simp [g__law_due_classes, f__law_due_classes, dval, e1 _ rfl, e2, line1k, -eLc]
end
end K01
namespace K01
open PySem PySem.Spec PyProof.Rows L2 Den
/-! ### one class, two errors -/
abbrev t1 : FT := (tOrF (fB (eTwo (gInS fun b => b) (eVar 1) (eTup (aCons (eInt 4) (aCons (eInt 7) aNil))))) (fB (eTwo gGt (eVar 1) (eInt 7))))
abbrev t2 : FT := (fB (eTwo (gInS fun b => b) (eVar 1) (eTup (aCons (eInt 8) (aCons (eInt 9) aNil)))))
abbrev gS (c : Er) : GA := gStr2 c.N (gStrF c.N "value") c.U (gStrF c.U "name")
/-- what holds of the class with the number n -/
structure AtN (K : Kf) (c : Er) (n : Int) (mk : D → D) (b b2 : Bool) (ow ot : List D) : Prop where
  he : ∀ v t M, g__law_error_of K c [.int n, v, .str t] M = .ok (mk v) M
  ho : ∀ v M, g__law_own_classes K c [mk v] M = .ok (.lst ow) M
  ht : ∀ v M, g__law_other_classes K c [mk v] M = .ok (.lst ot) M
  hd : ∀ M, g__law_due_classes [.int n] M = .ok (.lst [.lst ow, .lst ot]) M
  hw : ∃ s : Str, ∀ M, gReprX [.lst [.lst ow, .lst ot]] M = .ok (.str s) M
  hk : ∀ v M, g__law_kept_by K c [.int n, mk v] M = .ok (.lst (if b = true then [v] else [])) M
  h1 : ∀ (ρ : Ro) M, ρ[1]? = some (some (.int n)) → t1 ρ M = .ok b M
  h2 : ∀ (ρ : Ro) M, ρ[1]? = some (some (.int n)) → t2 ρ M = .ok b2 M
  hs : b2 = true → ∀ v M (s : Str), (∀ M, gReprX [v] M = .ok (.str s) M) → gS c [mk v] M = .ok (.str s) M
  hc : ∀ v t M (s : Str), (∀ M, gReprX [v] M = .ok (.str s) M) → g__law_caught K c [.int n, v, .str t] M = .ok (.lst (.int n :: if b = true then [.str s] else [])) M
  ha : ∀ v t M, g__law_is_caught_above K c [.int n, v, .str t] M = .ok (.bl true) M
  hz : n.natAbs < 10 ^ 30
section
variable {K : Kf} {c : Er} {n : Int} {mk : D → D} {b b2 : Bool} {ow ot : List D}
abbrev envA (st : Nat) (n : Int) (vs es : List D) (x4 x5 x6 x7 : Option D) : Ro := [some (.loc st), some (.int n), some (.lst vs), some (.lst es), x4, x5, x6, x7]
abbrev s5 (K : Kf) (c : Er) : FS := (sSet 5 (eLst (aCons (eCall (g__law_own_classes K c) [] 1 (aCons (eTwo gIx (eVar 3) (eVar 4)) aNil)) (aCons (eCall (g__law_other_classes K c) [] 1 (aCons (eTwo gIx (eVar 3) (eVar 4)) aNil)) aNil))))
abbrev i5 : FS := (sIf (fB (eTwo gNe (eApp gReprX (aCons (eVar 5) aNil)) (eApp gReprX (aCons (eCall (g__law_due_classes) [] 1 (aCons (eVar 1) aNil)) aNil)))) (sRet (eBool false)) sNx)
abbrev s6 : FS := (sSet 6 (eIf t1 (eLst (aCons (eTwo gIx (eVar 2) (eVar 4)) aNil)) (eLst aNil)))
abbrev i6 (K : Kf) (c : Er) : FS := (sIf (fB (eTwo gNe (eApp gReprX (aCons (eCall (g__law_kept_by K c) [] 2 (aCons (eVar 1) (aCons (eTwo gIx (eVar 3) (eVar 4)) aNil))) aNil)) (eApp gReprX (aCons (eVar 6) aNil)))) (sRet (eBool false)) sNx)
abbrev i7 (c : Er) : FS := (sIf (tAndF t2 (fB (eTwo gNe (eApp (gS c) (aCons (eTwo gIx (eVar 3) (eVar 4)) aNil)) (eApp gReprX (aCons (eTwo gIx (eVar 2) (eVar 4)) aNil))))) (sRet (eBool false)) sNx)
abbrev lc7 : FE := (eLc (iVal (eVar 6)) (gNm 7) [7] tTrue (eApp gReprX (aCons (eVar 7) aNil)))
abbrev i8 (K : Kf) (c : Er) : FS := (sIf (fB (eTwo gNe (eCall (g__law_caught K c) [] 3 (aCons (eVar 1) (aCons (eTwo gIx (eVar 2) (eVar 4)) (aCons (eStr "some") aNil)))) (eTwo gAdd (eLst (aCons (eVar 1) aNil)) lc7))) (sRet (eBool false)) sNx)
abbrev i9 (K : Kf) (c : Er) : FS := (sIf (tNotF (fTru (eCall (g__law_is_caught_above K c) [] 3 (aCons (eVar 1) (aCons (eTwo gIx (eVar 2) (eVar 4)) (aCons (eStr "some") aNil)))))) (sRet (eBool false)) sNx)
abbrev body2 (K : Kf) (c : Er) : FS := (sSeq (s5 K c) (sSeq i5 (sSeq s6 (sSeq (i6 K c) (sSeq (i7 c) (sSeq (i8 K c) (i9 K c)))))))
theorem body2_ok (T : AtN K c n mk b b2 ow ot) {st : Nat} {vs : List D} {j : Int} {v : D} (hv : atI vs j = some v) (he : atI (vs.map mk) j = some (mk v)) (gv : GV v) (x5 x6 x7 : Option D) (M : Mem) :
    ∃ y5 y6, body2 K c (envA st n vs (vs.map mk) (some (.int j)) x5 x6 x7) M = .ok (.nx (envA st n vs (vs.map mk) (some (.int j)) y5 y6 x7)) M := by
  obtain ⟨⟨s, hs, hok, hsl⟩, u, hu⟩ := gv
  obtain ⟨sw, hw⟩ := T.hw
  let kp : List D := if b = true then [v] else []
  let kr : List D := if b = true then [.str s] else []
  refine ⟨some (.lst [.lst ow, .lst ot]), some (.lst kp), ?_⟩
  have p5 : s5 K c (envA st n vs (vs.map mk) (some (.int j)) x5 x6 x7) M = .ok (.nx (envA st n vs (vs.map mk) (some (.int j)) (some (.lst [.lst ow, .lst ot])) x6 x7)) M := by
    simp [he, T.ho, T.ht, line1k]
  have q5 : i5 (envA st n vs (vs.map mk) (some (.int j)) (some (.lst [.lst ow, .lst ot])) x6 x7) M = .ok (.nx (envA st n vs (vs.map mk) (some (.int j)) (some (.lst [.lst ow, .lst ot])) x6 x7)) M := by
    simp [T.hd, hw, -gReprX]
  have p6 : s6 (envA st n vs (vs.map mk) (some (.int j)) (some (.lst [.lst ow, .lst ot])) x6 x7) M = .ok (.nx (envA st n vs (vs.map mk) (some (.int j)) (some (.lst [.lst ow, .lst ot])) (some (.lst kp)) x7)) M := by
    show ((eIf t1 (eLst (aCons (eTwo gIx (eVar 2) (eVar 4)) aNil)) (eLst aNil)) _ M).bind _ = _
    have e1 := T.h1 (envA st n vs (vs.map mk) (some (.int j)) (some (.lst [.lst ow, .lst ot])) x6 x7) M rfl
    unfold eIf
    rw [e1, Out.bind_ok]
    cases b with
    | true => simp [kp, hv, line1k]
    | false => simp [kp, line1k]
  have kx : ∃ z : Str, ∀ M, gReprX [.lst kp] M = .ok (.str z) M := by
    simp only [kp]
    cases b with
    | true => exact ⟨u, hu⟩
    | false => exact ⟨"[]", fun M => by
        obtain ⟨z, e⟩ := repr_gd (gd_lst (k := 0) (m := 0) (n := 0) (ds := []) (fun d hd => by cases hd) (Nat.le_refl _)) (by decide) (by decide)
        exact (show gReprX [.lst []] M = gRepr [.lst []] M from rfl).trans (by
          have o : reprOk (.list []) = true := by
            unfold reprOk
            have h2 : decide ((PyData.list []).shown.length ≤ lineD) = true := decide_eq_true (line1k (by decide +kernel))
            rw [h2]; rfl
          show (if reprOk (.list []) = true then Out.ok (D.str (PyData.list []).shown) M else .no) = _
          rw [if_pos o]; rfl)⟩
  obtain ⟨z, hz⟩ := kx
  have q6 : i6 K c (envA st n vs (vs.map mk) (some (.int j)) (some (.lst [.lst ow, .lst ot])) (some (.lst kp)) x7) M = .ok (.nx (envA st n vs (vs.map mk) (some (.int j)) (some (.lst [.lst ow, .lst ot])) (some (.lst kp)) x7)) M := by
    have hk : ∀ M, g__law_kept_by K c [.int n, mk v] M = .ok (.lst kp) M := fun M => T.hk v M
    simp [he, hk, hz, -gReprX]
  have q7 : i7 c (envA st n vs (vs.map mk) (some (.int j)) (some (.lst [.lst ow, .lst ot])) (some (.lst kp)) x7) M = .ok (.nx (envA st n vs (vs.map mk) (some (.int j)) (some (.lst [.lst ow, .lst ot])) (some (.lst kp)) x7)) M := by
    have e2 := T.h2 (envA st n vs (vs.map mk) (some (.int j)) (some (.lst [.lst ow, .lst ot])) (some (.lst kp)) x7) M rfl
    show ((tAndF t2 _ _ M).bind _) = _
    unfold tAndF
    rw [e2, Out.bind_ok]
    cases hb2 : b2 with
    | true =>
      have es := fun M => T.hs hb2 v M s hs
      simp [he, hv, es, hs, -gReprX, -gStr2]
    | false => rfl
  have e7 : ∀ M, lc7 (envA st n vs (vs.map mk) (some (.int j)) (some (.lst [.lst ow, .lst ot])) (some (.lst kp)) x7) M = .ok (.lst kr) M := by
    intro M
    refine lc_eq (M1 := M) (xs := kp) rfl (line1k (by simp only [kp]; cases b <;> simp)) ?_
    simp only [kp, kr]
    cases b with
    | true => simp [lcD, wipeD, hs, -gReprX]
    | false => rfl
  have gk : Gd 2 10000 (.lst (.int n :: kr)) := by
    refine (gd_lst (k := 0) (m := 2500) (n := 2) (ds := .int n :: kr) (fun d hd => ?_) (by simp only [kr]; cases b <;> simp)).mono (by decide) (by decide)
    rcases List.mem_cons.mp hd with rfl | hd
    · exact (gd_int T.hz).mono (Nat.le_refl _) (by decide)
    · simp only [kr] at hd
      cases b with
      | true =>
        rw [List.mem_singleton.mp hd]
        exact (gd_strOk hok hsl).mono (Nat.le_refl _) (by decide)
      | false => cases hd
  have q8 : i8 K c (envA st n vs (vs.map mk) (some (.int j)) (some (.lst [.lst ow, .lst ot])) (some (.lst kp)) x7) M = .ok (.nx (envA st n vs (vs.map mk) (some (.int j)) (some (.lst [.lst ow, .lst ot])) (some (.lst kp)) x7)) M := by
    have hc : ∀ t M, g__law_caught K c [.int n, v, .str t] M = .ok (.lst (.int n :: kr)) M := fun t M => T.hc v t M s hs
    have ga : ∀ M, gAdd (.lst [.int n]) (.lst kr) M = .ok (.lst (.int n :: kr)) M := fun M => if_pos (line1k (by simp only [kr]; cases b <;> simp))
    have ne := ne_self gk (by decide) M
    show ((fB (eTwo gNe _ (eTwo gAdd _ lc7)) _ M).bind _) = _
    simp only [fB, eTwo, eCall, aCons, aNil, eVar, eStr, eLst, Out.bind_ok, List.getElem?_cons_zero, List.getElem?_cons_succ, e7]
    simp [hv, hc, ga, ne, line1k, -gAdd, -gNe_ap]
  have q9 : i9 K c (envA st n vs (vs.map mk) (some (.int j)) (some (.lst [.lst ow, .lst ot])) (some (.lst kp)) x7) M = .ok (.nx (envA st n vs (vs.map mk) (some (.int j)) (some (.lst [.lst ow, .lst ot])) (some (.lst kp)) x7)) M := by
    simp [hv, T.ha]
  show body2 K c _ M = _
  unfold body2
  rw [sq p5, sq q5, sq p6, sq q6, sq q7, sq q8, q9]
end
end K01
namespace K01
open PySem PySem.Spec PyProof.Rows L2 Den
theorem repr_bools (xs ys : List Bool) (hx : xs.length ≤ 13) (hy : ys.length ≤ 13) : ∃ s : Str, ∀ M, gReprX [.lst [.lst (xs.map D.bl), .lst (ys.map D.bl)]] M = .ok (.str s) M := by
  have g1 : ∀ zs : List Bool, zs.length ≤ 13 → Gd 1 (13 * 42 + 3) (.lst (zs.map D.bl)) := fun zs hz => gd_lst (k := 0) (m := 40) (n := 13) (fun d hd => by
    obtain ⟨q, _, rfl⟩ := List.mem_map.mp hd
    exact gd_bl q) (by simpa using hz)
  obtain ⟨s, e⟩ := repr_gd (gd_lst (k := 1) (n := 2) (ds := [.lst (xs.map D.bl), .lst (ys.map D.bl)]) (fun d hd => by
    simp only [List.mem_cons, List.not_mem_nil, or_false] at hd
    rcases hd with rfl | rfl
    · exact g1 xs hx
    · exact g1 ys hy) (Nat.le_refl _)) (by decide) (by decide)
  exact ⟨s, fun M => (reprX1 (by intro _ _ e; cases e) (by intro d2 e; cases e) M).trans (e M)⟩
theorem test1 {n : Int} {b : Bool} (h : (decide (n = 4) || decide (n = 7) || decide (7 < n)) = b) : ∀ (ρ : Ro) M, ρ[1]? = some (some (.int n)) → t1 ρ M = .ok b M := by
  intro ρ M hr
  have e : inV (V.int n) [V.int 4, V.int 7] = (decide (n = 4) || decide (n = 7)) := by
    show (decide (4 = n) || (decide (7 = n) || false)) = _
    rw [Bool.or_false, show decide (4 = n) = decide (n = 4) from decide_eq_decide.mpr eq_comm, show decide (7 = n) = decide (n = 7) from decide_eq_decide.mpr eq_comm]
  have eA : (fB (eTwo (gInS fun b => b) (eVar 1) (eTup (aCons (eInt 4) (aCons (eInt 7) aNil))))) ρ M = .ok (decide (n = 4) || decide (n = 7)) M := by simp [hr, e, toV, toVs, flatV, line1k]
  have eB : (fB (eTwo gGt (eVar 1) (eInt 7))) ρ M = .ok (decide (7 < n)) M := by simp [hr]
  show ((fB (eTwo (gInS fun b => b) (eVar 1) (eTup (aCons (eInt 4) (aCons (eInt 7) aNil))))) ρ M).bind _ = _
  rw [eA, Out.bind_ok, eB]
  subst h
  cases (decide (n = 4) || decide (n = 7)) <;> rfl
theorem test2 {n : Int} {b : Bool} (h : (decide (n = 8) || decide (n = 9)) = b) : ∀ (ρ : Ro) M, ρ[1]? = some (some (.int n)) → t2 ρ M = .ok b M := by
  intro ρ M hr
  subst h
  simp [t2, hr, in89, toV, toVs, flatV, line1k]
section
variable {K : Kf} {c : Er}
theorem str_N {v : D} {M : Mem} {s : Str} (h : ∀ M, gReprX [v] M = .ok (.str s) M) : gS c [.exn c.N ["value"] [v]] M = .ok (.str s) M := by
  simp [gS, gStrF, h, -gReprX]
theorem str_U (hu : c.U ≠ c.N) {v : D} {M : Mem} {s : Str} (h : ∀ M, gReprX [v] M = .ok (.str s) M) : gS c [.exn c.U ["name"] [v]] M = .ok (.str s) M := by
  simp [gS, gStrF, h, hu, -gReprX]
theorem at_1 (H : KF K c) : AtN K c 1 (fun _ => .exn c.W [] []) false false ([.bl true, .bl true, .bl false, .bl false, .bl false, .bl false, .bl false, .bl false, .bl false, .bl false, .bl false, .bl false, .bl false]) ([.bl true, .bl false, .bl false, .bl false, .bl false, .bl false, .bl false]) :=
  { he := fun v t M => err_1, ho := fun v M => own_1 H, ht := fun v M => oth_1 H, hd := fun M => due_1, hw := repr_bools [true, true, false, false, false, false, false, false, false, false, false, false, false] [true, false, false, false, false, false, false] (by decide) (by decide), hk := fun v M => kept_1
    h1 := test1 (by decide), h2 := test2 (by decide), hs := (fun z => by cases z), hc := fun v t M s _ => caught_1 H, ha := fun v t M => above_1 H, hz := by decide }
theorem at_2 (H : KF K c) : AtN K c 2 (fun _ => .exn c.M [] []) false false ([.bl true, .bl false, .bl true, .bl false, .bl false, .bl false, .bl false, .bl false, .bl false, .bl false, .bl false, .bl false, .bl false]) ([.bl true, .bl false, .bl false, .bl false, .bl false, .bl false, .bl false]) :=
  { he := fun v t M => err_2, ho := fun v M => own_2 H, ht := fun v M => oth_2 H, hd := fun M => due_2, hw := repr_bools [true, false, true, false, false, false, false, false, false, false, false, false, false] [true, false, false, false, false, false, false] (by decide) (by decide), hk := fun v M => kept_2
    h1 := test1 (by decide), h2 := test2 (by decide), hs := (fun z => by cases z), hc := fun v t M s _ => caught_2 H, ha := fun v t M => above_2 H, hz := by decide }
theorem at_3 (H : KF K c) : AtN K c 3 (fun _ => .exn c.P [] []) false false ([.bl true, .bl false, .bl false, .bl true, .bl false, .bl false, .bl false, .bl false, .bl false, .bl false, .bl false, .bl false, .bl false]) ([.bl true, .bl false, .bl false, .bl false, .bl false, .bl false, .bl false]) :=
  { he := fun v t M => err_3, ho := fun v M => own_3 H, ht := fun v M => oth_3 H, hd := fun M => due_3, hw := repr_bools [true, false, false, true, false, false, false, false, false, false, false, false, false] [true, false, false, false, false, false, false] (by decide) (by decide), hk := fun v M => kept_3
    h1 := test1 (by decide), h2 := test2 (by decide), hs := (fun z => by cases z), hc := fun v t M s _ => caught_3 H, ha := fun v t M => above_3 H, hz := by decide }
theorem at_4 (H : KF K c) : AtN K c 4 (fun v => .exn c.R ["index"] [v]) true false ([.bl true, .bl false, .bl false, .bl false, .bl true, .bl false, .bl false, .bl false, .bl false, .bl false, .bl false, .bl false, .bl false]) ([.bl true, .bl false, .bl false, .bl false, .bl false, .bl false, .bl false]) :=
  { he := fun v t M => err_4, ho := fun v M => own_4 H, ht := fun v M => oth_4 H, hd := fun M => due_4, hw := repr_bools [true, false, false, false, true, false, false, false, false, false, false, false, false] [true, false, false, false, false, false, false] (by decide) (by decide), hk := fun v M => kept_4
    h1 := test1 (by decide), h2 := test2 (by decide), hs := (fun z => by cases z), hc := fun v t M s h => caught_4 H (h M), ha := fun v t M => above_4 H, hz := by decide }
theorem at_5 (H : KF K c) : AtN K c 5 (fun _ => .exn c.L [] []) false false ([.bl true, .bl false, .bl false, .bl false, .bl false, .bl true, .bl false, .bl false, .bl false, .bl false, .bl false, .bl false, .bl false]) ([.bl true, .bl false, .bl false, .bl false, .bl false, .bl false, .bl false]) :=
  { he := fun v t M => err_5, ho := fun v M => own_5 H, ht := fun v M => oth_5 H, hd := fun M => due_5, hw := repr_bools [true, false, false, false, false, true, false, false, false, false, false, false, false] [true, false, false, false, false, false, false] (by decide) (by decide), hk := fun v M => kept_5
    h1 := test1 (by decide), h2 := test2 (by decide), hs := (fun z => by cases z), hc := fun v t M s _ => caught_5 H, ha := fun v t M => above_5 H, hz := by decide }
theorem at_6 (H : KF K c) : AtN K c 6 (fun _ => .exn c.O [] []) false false ([.bl true, .bl false, .bl false, .bl false, .bl false, .bl false, .bl true, .bl false, .bl false, .bl false, .bl false, .bl false, .bl false]) ([.bl true, .bl false, .bl false, .bl false, .bl false, .bl false, .bl false]) :=
  { he := fun v t M => err_6, ho := fun v M => own_6 H, ht := fun v M => oth_6 H, hd := fun M => due_6, hw := repr_bools [true, false, false, false, false, false, true, false, false, false, false, false, false] [true, false, false, false, false, false, false] (by decide) (by decide), hk := fun v M => kept_6
    h1 := test1 (by decide), h2 := test2 (by decide), hs := (fun z => by cases z), hc := fun v t M s _ => caught_6 H, ha := fun v t M => above_6 H, hz := by decide }
theorem at_7 (H : KF K c) : AtN K c 7 (fun v => .exn c.E ["line"] [v]) true false ([.bl true, .bl false, .bl false, .bl false, .bl false, .bl false, .bl false, .bl true, .bl false, .bl false, .bl false, .bl false, .bl false]) ([.bl true, .bl false, .bl false, .bl false, .bl false, .bl false, .bl false]) :=
  { he := fun v t M => err_7, ho := fun v M => own_7 H, ht := fun v M => oth_7 H, hd := fun M => due_7, hw := repr_bools [true, false, false, false, false, false, false, true, false, false, false, false, false] [true, false, false, false, false, false, false] (by decide) (by decide), hk := fun v M => kept_7
    h1 := test1 (by decide), h2 := test2 (by decide), hs := (fun z => by cases z), hc := fun v t M s h => caught_7 H (h M), ha := fun v t M => above_7 H, hz := by decide }
theorem at_8 (H : KF K c) : AtN K c 8 (fun v => .exn c.N ["value"] [v]) true true ([.bl false, .bl false, .bl false, .bl false, .bl false, .bl false, .bl false, .bl false, .bl true, .bl false, .bl false, .bl false, .bl false]) ([.bl false, .bl true, .bl true, .bl false, .bl false, .bl false, .bl false]) :=
  { he := fun v t M => err_8, ho := fun v M => own_8 H, ht := fun v M => oth_8 H, hd := fun M => due_8, hw := repr_bools [false, false, false, false, false, false, false, false, true, false, false, false, false] [false, true, true, false, false, false, false] (by decide) (by decide), hk := fun v M => kept_8
    h1 := test1 (by decide), h2 := test2 (by decide), hs := fun _ v M s h => str_N h, hc := fun v t M s h => caught_8 H (h M), ha := fun v t M => above_8 H, hz := by decide }
theorem at_9 (H : KF K c) : AtN K c 9 (fun v => .exn c.U ["name"] [v]) true true ([.bl false, .bl false, .bl false, .bl false, .bl false, .bl false, .bl false, .bl false, .bl false, .bl true, .bl false, .bl false, .bl false]) ([.bl false, .bl true, .bl false, .bl true, .bl false, .bl false, .bl false]) :=
  { he := fun v t M => err_9, ho := fun v M => own_9 H, ht := fun v M => oth_9 H, hd := fun M => due_9, hw := repr_bools [false, false, false, false, false, false, false, false, false, true, false, false, false] [false, true, false, true, false, false, false] (by decide) (by decide), hk := fun v M => kept_9
    h1 := test1 (by decide), h2 := test2 (by decide), hs := fun _ v M s h => str_U H.un h, hc := fun v t M s h => caught_9 H (h M), ha := fun v t M => above_9 H, hz := by decide }
theorem at_10 (H : KF K c) : AtN K c 10 (fun v => .exn c.T ["limit"] [v]) true false ([.bl false, .bl false, .bl false, .bl false, .bl false, .bl false, .bl false, .bl false, .bl false, .bl false, .bl true, .bl false, .bl false]) ([.bl false, .bl false, .bl false, .bl false, .bl true, .bl true, .bl false]) :=
  { he := fun v t M => err_10, ho := fun v M => own_10 H, ht := fun v M => oth_10 H, hd := fun M => due_10, hw := repr_bools [false, false, false, false, false, false, false, false, false, false, true, false, false] [false, false, false, false, true, true, false] (by decide) (by decide), hk := fun v M => kept_10
    h1 := test1 (by decide), h2 := test2 (by decide), hs := (fun z => by cases z), hc := fun v t M s h => caught_10 H (h M), ha := fun v t M => above_10 H, hz := by decide }
theorem at_11 (H : KF K c) : AtN K c 11 (fun v => .exn c.B ["many"] [v]) true false ([.bl false, .bl false, .bl false, .bl false, .bl false, .bl false, .bl false, .bl false, .bl false, .bl false, .bl false, .bl true, .bl false]) ([.bl false, .bl true, .bl false, .bl false, .bl false, .bl false, .bl false]) :=
  { he := fun v t M => err_11, ho := fun v M => own_11 H, ht := fun v M => oth_11 H, hd := fun M => due_11, hw := repr_bools [false, false, false, false, false, false, false, false, false, false, false, true, false] [false, true, false, false, false, false, false] (by decide) (by decide), hk := fun v M => kept_11
    h1 := test1 (by decide), h2 := test2 (by decide), hs := (fun z => by cases z), hc := fun v t M s h => caught_11 H (h M), ha := fun v t M => above_11 H, hz := by decide }
theorem at_12 (H : KF K c) : AtN K c 12 (fun v => .exn c.D ["place"] [v]) true false ([.bl false, .bl false, .bl false, .bl false, .bl false, .bl false, .bl false, .bl false, .bl false, .bl false, .bl false, .bl false, .bl true]) ([.bl false, .bl false, .bl false, .bl false, .bl true, .bl false, .bl false]) :=
  { he := fun v t M => err_12, ho := fun v M => own_12 H, ht := fun v M => oth_12 H, hd := fun M => due_12, hw := repr_bools [false, false, false, false, false, false, false, false, false, false, false, false, true] [false, false, false, false, true, false, false] (by decide) (by decide), hk := fun v M => kept_12
    h1 := test1 (by decide), h2 := test2 (by decide), hs := (fun z => by cases z), hc := fun v t M s h => caught_12 H (h M), ha := fun v t M => above_12 H, hz := by decide }
end
end K01
namespace K01
open PySem PySem.Spec PyProof.Rows L2 Den
section
variable {K : Kf} {c : Er}
abbrev loop2 (K : Kf) (c : Er) : FS := (sFor (iRg1 (aCons (eInt 2) aNil)) (gNm 4) (body2 K c))
abbrev vals2 : FE := (eLst (aCons (eCall (g__law_value_of) [] 2 (aCons (eVar 0) (aCons (eVar 1) aNil))) (aCons (eCall (g__law_value_of) [] 2 (aCons (eVar 0) (aCons (eVar 1) aNil))) aNil)))
abbrev errs2 (K : Kf) (c : Er) : FE := (eLst (aCons (eCall (g__law_error_of K c) [] 3 (aCons (eVar 1) (aCons (eTwo gIx (eVar 2) (eInt 0)) (aCons (eStr "one") aNil)))) (aCons (eCall (g__law_error_of K c) [] 3 (aCons (eVar 1) (aCons (eTwo gIx (eVar 2) (eInt 1)) (aCons (eStr "other") aNil)))) aNil)))
abbrev bodyA (K : Kf) (c : Er) : FS := (sSeq (sSet 2 vals2) (sSeq (sSet 3 (errs2 K c)) (loop2 K c)))
theorem bodyA_ok {n : Int} {mk : D → D} {b b2 : Bool} {ow ot : List D} (T : AtN K c n mk b b2 ow ot) {st : Nat} {M : Mem} (h : Stk M st) (x2 x3 x4 x5 x6 x7 : Option D) :
    ∃ y2 y3 y4 y5 y6 y7 M', bodyA K c [some (.loc st), some (.int n), x2, x3, x4, x5, x6, x7] M = .ok (.nx [some (.loc st), some (.int n), y2, y3, y4, y5, y6, y7]) M' ∧ Stk M' st := by
  obtain ⟨v1, M1, e1, g1, s1⟩ := value_ok (a := n) h
  obtain ⟨v2, M2, e2, g2, s2⟩ := value_ok (a := n) s1
  have p2 : sSet 2 vals2 [some (.loc st), some (.int n), x2, x3, x4, x5, x6, x7] M = .ok (.nx [some (.loc st), some (.int n), some (.lst [v1, v2]), x3, x4, x5, x6, x7]) M2 := by
    simp [e1, e2, line1k]
  have i0 : atI [v1, v2] (0 : Int) = some v1 := rfl
  have i1 : atI [v1, v2] (1 : Int) = some v2 := rfl
  have p3 : sSet 3 (errs2 K c) [some (.loc st), some (.int n), some (.lst [v1, v2]), x3, x4, x5, x6, x7] M2 = .ok (.nx [some (.loc st), some (.int n), some (.lst [v1, v2]), some (.lst [mk v1, mk v2]), x4, x5, x6, x7]) M2 := by
    simp [i0, i1, T.he, line1k]
  obtain ⟨ρ', M', e, ⟨⟨y4, y5, y6, rfl⟩, rfl⟩⟩ := loop_inv (g := gNm 4) (body := body2 K c) (fun ρ M' => (∃ y4 y5 y6, ρ = envA st n [v1, v2] ([v1, v2].map mk) y4 y5 y6 x7) ∧ M' = M2) (xs := rangeD 0 2) (ρ := envA st n [v1, v2] ([v1, v2].map mk) x4 x5 x6 x7) (M := M2) (by
    rintro x hx ρ M' ⟨⟨y4, y5, y6, rfl⟩, rfl⟩
    rw [r2] at hx
    simp only [List.mem_cons, List.not_mem_nil, or_false] at hx
    rcases hx with rfl | rfl
    · obtain ⟨z5, z6, q⟩ := body2_ok T (st := st) (vs := [v1, v2]) (j := 0) (v := v1) rfl rfl g1 y5 y6 x7 M'
      exact ⟨_, _, _, rfl, .inl q, ⟨_, _, _, rfl⟩, rfl⟩
    · obtain ⟨z5, z6, q⟩ := body2_ok T (st := st) (vs := [v1, v2]) (j := 1) (v := v2) rfl rfl g2 y5 y6 x7 M'
      exact ⟨_, _, _, rfl, .inl q, ⟨_, _, _, rfl⟩, rfl⟩) ⟨⟨_, _, _, rfl⟩, rfl⟩
  have p4 := for_eq (fi := iRg1 (aCons (eInt 2) aNil)) (rg1 2 (by decide) M') e
  refine ⟨some (.lst [v1, v2]), some (.lst [mk v1, mk v2]), y4, y5, y6, x7, M', ?_, s2⟩
  show bodyA K c _ M = _
  unfold bodyA
  rw [sq p2, sq p3]
  exact p4
theorem cell_ok (H : KF K c) {st : Nat} {M : Mem} (h : Stk M st) : ∃ M', g__law_cell_right K c [.loc st] M = .ok (.bl true) M' := by
  obtain ⟨ρ', M', e, ⟨⟨x1, x2, x3, x4, x5, x6, x7, rfl⟩, s'⟩⟩ := loop_inv (g := gNm 1) (body := bodyA K c) (fun ρ M' => (∃ x1 x2 x3 x4 x5 x6 x7, ρ = [some (.loc st), x1, x2, x3, x4, x5, x6, x7]) ∧ Stk M' st) (xs := rangeD 1 13) (ρ := [some (.loc st), none, none, none, none, none, none, none]) (M := M) (by
    rintro x hx ρ M' ⟨⟨x1, x2, x3, x4, x5, x6, x7, rfl⟩, sM⟩
    have go : ∀ {n : Int} {mk : D → D} {b b2 : Bool} {ow ot : List D}, AtN K c n mk b b2 ow ot → x = .int n → ∃ ρ1 ρ2 M2, gNm 1 x [some (.loc st), x1, x2, x3, x4, x5, x6, x7] = some ρ1 ∧ (bodyA K c ρ1 M' = .ok (.nx ρ2) M2 ∨ bodyA K c ρ1 M' = .ok (.ct ρ2) M2) ∧ (∃ x1 x2 x3 x4 x5 x6 x7, ρ2 = [some (.loc st), x1, x2, x3, x4, x5, x6, x7]) ∧ Stk M2 st := by
      rintro n mk b b2 ow ot T rfl
      obtain ⟨y2, y3, y4, y5, y6, y7, M2, q, sq⟩ := bodyA_ok T sM x2 x3 x4 x5 x6 x7
      exact ⟨_, _, M2, rfl, .inl q, ⟨_, _, _, _, _, _, _, rfl⟩, sq⟩
    rw [r13] at hx
    simp only [List.mem_cons, List.not_mem_nil, or_false] at hx
    rcases hx with hx | hx | hx | hx | hx | hx | hx | hx | hx | hx | hx | hx
    · exact go (at_1 H) hx
    · exact go (at_2 H) hx
    · exact go (at_3 H) hx
    · exact go (at_4 H) hx
    · exact go (at_5 H) hx
    · exact go (at_6 H) hx
    · exact go (at_7 H) hx
    · exact go (at_8 H) hx
    · exact go (at_9 H) hx
    · exact go (at_10 H) hx
    · exact go (at_11 H) hx
    · exact go (at_12 H) hx) ⟨⟨_, _, _, _, _, _, _, rfl⟩, h⟩
  have e0 := for_eq (fi := iRg2 (aCons (eInt 1) (aCons (eInt 13) aNil))) (rg2 1 13 (by decide) M) e
  refine ⟨M', ?_⟩
  have fe : f__law_cell_right K c = sSeq (sFor (iRg2 (aCons (eInt 1) (aCons (eInt 13) aNil))) (gNm 1) (bodyA K c)) (sRet (eBool true)) := rfl
  have st0 : ([D.loc st].map some ++ List.replicate (8 - [D.loc st].length) none : Ro) = [some (.loc st), none, none, none, none, none, none, none] := rfl
  show (((f__law_cell_right K c) ([D.loc st].map some ++ List.replicate (8 - [D.loc st].length) none) M).noX.bind _) = _
  rw [st0, fe, sq e0]
  rfl
theorem law_right (H : KF K c) {ns : List Int} (hl : ns.length ≤ 63) : ∃ M', g_law K c [.scr (ns.map D.int)] [] = .ok (.bl true) M' := by
  have hm : ∃ m : Int, ∀ b : Option D, ∀ M, (iRg1 (aCons (eApp gMax (aCons (eInt 1) (aCons (eApp gMin (aCons (eInt 6) (aCons (eApp gLen (aCons (eVar 0) aNil)) aNil))) aNil))) aNil)) [some (.scr (ns.map D.int)), b] M = .ok (rangeD 0 m) M := by
    let q : Int := if 1 < (if (ns.length : Int) < 6 then (ns.length : Int) else 6) then (if (ns.length : Int) < 6 then (ns.length : Int) else 6) else 1
    have q1 : q ≤ 6 := by simp only [q]; split <;> split <;> omega
    have q2 : -1000000000 ≤ q := by simp only [q]; split <;> split <;> omega
    refine ⟨q, fun b M => ?_⟩
    have e : (iRg1 (aCons (eApp gMax (aCons (eInt 1) (aCons (eApp gMin (aCons (eInt 6) (aCons (eApp gLen (aCons (eVar 0) aNil)) aNil))) aNil))) aNil)) [some (.scr (ns.map D.int)), b] M = gRg1 [.int q] M := by
      simp only [q]
      simp [-gRg1]
    rw [e]
    exact rg1 _ ⟨q2, by omega⟩ M
  obtain ⟨m, hm⟩ := hm
  obtain ⟨ρ', M', e, v, rfl⟩ := loop_inv (g := gNm 1) (body := (sIf (tNotF (fTru (eCall (g__law_cell_right K c) [] 1 (aCons (eCall (g__law_stock) [] 2 (aCons (eVar 0) (aCons (eVar 1) aNil))) aNil)))) (sRet (eBool false)) sNx)) (fun ρ _ => ∃ v, ρ = [some (.scr (ns.map D.int)), v]) (xs := rangeD 0 m) (ρ := [some (.scr (ns.map D.int)), none]) (M := []) (by
    rintro x hx ρ M ⟨v, rfl⟩
    obtain ⟨k, rfl⟩ : ∃ k : Nat, x = .int k := by
      unfold rangeD at hx
      simp only [List.mem_map, List.mem_range] at hx
      obtain ⟨i, _, rfl⟩ := hx
      exact ⟨i, by simp⟩
    obtain ⟨M1, e1, s1⟩ := stock_ok (M := M) (ns := ns) (k := k)
    obtain ⟨M2, e2⟩ := cell_ok H s1
    refine ⟨[some (.scr (ns.map D.int)), some (.int k)], [some (.scr (ns.map D.int)), some (.int k)], M2, rfl, .inl ?_, ⟨_, rfl⟩⟩
    simp [e1, e2]) ⟨none, rfl⟩
  have e0 := for_eq (hm none []) e
  refine ⟨M', ?_⟩
  have fe : f_law K c = sSeq (sFor (iRg1 (aCons (eApp gMax (aCons (eInt 1) (aCons (eApp gMin (aCons (eInt 6) (aCons (eApp gLen (aCons (eVar 0) aNil)) aNil))) aNil))) aNil)) (gNm 1) (sIf (tNotF (fTru (eCall (g__law_cell_right K c) [] 1 (aCons (eCall (g__law_stock) [] 2 (aCons (eVar 0) (aCons (eVar 1) aNil))) aNil)))) (sRet (eBool false)) sNx)) (sRet (eBool true)) := rfl
  have st : ([D.scr (ns.map D.int)].map some ++ List.replicate (2 - [D.scr (ns.map D.int)].length) none : Ro) = [some (.scr (ns.map D.int)), none] := rfl
  show (((f_law K c) ([D.scr (ns.map D.int)].map some ++ List.replicate (2 - [D.scr (ns.map D.int)].length) none) []).noX.bind _) = _
  rw [st, fe, sq e0]
  rfl
end
end K01
namespace K01
open PySem PySem.Spec PyProof.Rows L2 Den
/-! ### what the top has left, and the end -/
theorem all_mk {l : PySem.W.OpenLaw} {w : World} {K : Kf} {h : Heap} {mg : Str → Option Value} {fa f0 f1 f2 f3 f4 f5 f6 f7 f8 f9 f10 f11 f12 f13 : Addr} (X : K.In h) (G : h.Ns mainGlobals mg) (hfa : mg "law" = some (.ref fa))
    {oc0 : Value} {od0 : Option Addr} {kV0 dc0 pm0 : Value} {an0 : Option Addr} {cd0 ct0 : Value} {sl0 : Array (Option Value)}
    {oc1 : Value} {od1 : Option Addr} {kV1 dc1 pm1 : Value} {an1 : Option Addr} {cd1 ct1 : Value} {sl1 : Array (Option Value)}
    {oc2 : Value} {od2 : Option Addr} {kV2 dc2 pm2 : Value} {an2 : Option Addr} {cd2 ct2 : Value} {sl2 : Array (Option Value)}
    {oc3 : Value} {od3 : Option Addr} {kV3 dc3 pm3 : Value} {an3 : Option Addr} {cd3 ct3 : Value} {sl3 : Array (Option Value)}
    {oc4 : Value} {od4 : Option Addr} {kV4 dc4 pm4 : Value} {an4 : Option Addr} {cd4 ct4 : Value} {sl4 : Array (Option Value)}
    {oc5 : Value} {od5 : Option Addr} {kV5 dc5 pm5 : Value} {an5 : Option Addr} {cd5 ct5 : Value} {sl5 : Array (Option Value)}
    {oc6 : Value} {od6 : Option Addr} {kV6 dc6 pm6 : Value} {an6 : Option Addr} {cd6 ct6 : Value} {sl6 : Array (Option Value)}
    {oc7 : Value} {od7 : Option Addr} {kV7 dc7 pm7 : Value} {an7 : Option Addr} {cd7 ct7 : Value} {sl7 : Array (Option Value)}
    {oc8 : Value} {od8 : Option Addr} {kV8 dc8 pm8 : Value} {an8 : Option Addr} {cd8 ct8 : Value} {sl8 : Array (Option Value)}
    {oc9 : Value} {od9 : Option Addr} {kV9 dc9 pm9 : Value} {an9 : Option Addr} {cd9 ct9 : Value} {sl9 : Array (Option Value)}
    {oc10 : Value} {od10 : Option Addr} {kV10 dc10 pm10 : Value} {an10 : Option Addr} {cd10 ct10 : Value} {sl10 : Array (Option Value)}
    {oc11 : Value} {od11 : Option Addr} {kV11 dc11 pm11 : Value} {an11 : Option Addr} {cd11 ct11 : Value} {sl11 : Array (Option Value)}
    {oc12 : Value} {od12 : Option Addr} {kV12 dc12 pm12 : Value} {an12 : Option Addr} {cd12 ct12 : Value} {sl12 : Array (Option Value)}
    {oc13 : Value} {od13 : Option Addr} {kV13 dc13 pm13 : Value} {an13 : Option Addr} {cd13 ct13 : Value} {sl13 : Array (Option Value)}
    {cF cW cM cP cR cL cO cE cN cU cT cB cD : Addr}
    {fR fE fN fU fT fB fD sN sU : Addr}
    {ocR : Value} {odR : Option Addr} {kVR dcR pmR : Value} {anR : Option Addr} {cdR ctR : Value} {slR : Array (Option Value)}
    {ocE : Value} {odE : Option Addr} {kVE dcE pmE : Value} {anE : Option Addr} {cdE ctE : Value} {slE : Array (Option Value)}
    {ocN : Value} {odN : Option Addr} {kVN dcN pmN : Value} {anN : Option Addr} {cdN ctN : Value} {slN : Array (Option Value)}
    {ocU : Value} {odU : Option Addr} {kVU dcU pmU : Value} {anU : Option Addr} {cdU ctU : Value} {slU : Array (Option Value)}
    {ocT : Value} {odT : Option Addr} {kVT dcT pmT : Value} {anT : Option Addr} {cdT ctT : Value} {slT : Array (Option Value)}
    {ocB : Value} {odB : Option Addr} {kVB dcB pmB : Value} {anB : Option Addr} {cdB ctB : Value} {slB : Array (Option Value)}
    {ocD : Value} {odD : Option Addr} {kVD dcD pmD : Value} {anD : Option Addr} {cdD ctD : Value} {slD : Array (Option Value)}
    {ocSN : Value} {odSN : Option Addr} {kVSN dcSN pmSN : Value} {anSN : Option Addr} {cdSN ctSN : Value} {slSN : Array (Option Value)}
    {ocSU : Value} {odSU : Option Addr} {kVSU dcSU pmSU : Value} {anSU : Option Addr} {cdSU ctSU : Value} {slSU : Array (Option Value)}
    (a0 : PySem.W.nsIn K mainGlobals "_law_stock" = some (some (.ref f0)))
    (l0 : K.lookup f0 = some ⟨oc0, od0, .func (PySem.W.fnOf "_law_stock" "_law_stock" (defArgs s__law_stock) (defBody s__law_stock) (defScope s__law_stock) .none kV0 dc0 pm0 an0 cd0 ct0), sl0⟩)
    (c0 : PySem.W.codeIn K cd0 "_law_stock" = true)
    (k0 : PySem.W.keepIn K (.ref f0) = true)
    (a1 : PySem.W.nsIn K mainGlobals "_law_draw" = some (some (.ref f1)))
    (l1 : K.lookup f1 = some ⟨oc1, od1, .func (PySem.W.fnOf "_law_draw" "_law_draw" (defArgs s__law_draw) (defBody s__law_draw) (defScope s__law_draw) .none kV1 dc1 pm1 an1 cd1 ct1), sl1⟩)
    (c1 : PySem.W.codeIn K cd1 "_law_draw" = true)
    (k1 : PySem.W.keepIn K (.ref f1) = true)
    (a2 : PySem.W.nsIn K mainGlobals "_law_pick" = some (some (.ref f2)))
    (l2 : K.lookup f2 = some ⟨oc2, od2, .func (PySem.W.fnOf "_law_pick" "_law_pick" (defArgs s__law_pick) (defBody s__law_pick) (defScope s__law_pick) .none kV2 dc2 pm2 an2 cd2 ct2), sl2⟩)
    (c2 : PySem.W.codeIn K cd2 "_law_pick" = true)
    (k2 : PySem.W.keepIn K (.ref f2) = true)
    (a3 : PySem.W.nsIn K mainGlobals "_law_own_classes" = some (some (.ref f3)))
    (l3 : K.lookup f3 = some ⟨oc3, od3, .func (PySem.W.fnOf "_law_own_classes" "_law_own_classes" (defArgs s__law_own_classes) (defBody s__law_own_classes) (defScope s__law_own_classes) .none kV3 dc3 pm3 an3 cd3 ct3), sl3⟩)
    (c3 : PySem.W.codeIn K cd3 "_law_own_classes" = true)
    (k3 : PySem.W.keepIn K (.ref f3) = true)
    (a4 : PySem.W.nsIn K mainGlobals "_law_other_classes" = some (some (.ref f4)))
    (l4 : K.lookup f4 = some ⟨oc4, od4, .func (PySem.W.fnOf "_law_other_classes" "_law_other_classes" (defArgs s__law_other_classes) (defBody s__law_other_classes) (defScope s__law_other_classes) .none kV4 dc4 pm4 an4 cd4 ct4), sl4⟩)
    (c4 : PySem.W.codeIn K cd4 "_law_other_classes" = true)
    (k4 : PySem.W.keepIn K (.ref f4) = true)
    (a5 : PySem.W.nsIn K mainGlobals "_law_due_classes" = some (some (.ref f5)))
    (l5 : K.lookup f5 = some ⟨oc5, od5, .func (PySem.W.fnOf "_law_due_classes" "_law_due_classes" (defArgs s__law_due_classes) (defBody s__law_due_classes) (defScope s__law_due_classes) .none kV5 dc5 pm5 an5 cd5 ct5), sl5⟩)
    (c5 : PySem.W.codeIn K cd5 "_law_due_classes" = true)
    (k5 : PySem.W.keepIn K (.ref f5) = true)
    (a6 : PySem.W.nsIn K mainGlobals "_law_error_of" = some (some (.ref f6)))
    (l6 : K.lookup f6 = some ⟨oc6, od6, .func (PySem.W.fnOf "_law_error_of" "_law_error_of" (defArgs s__law_error_of) (defBody s__law_error_of) (defScope s__law_error_of) .none kV6 dc6 pm6 an6 cd6 ct6), sl6⟩)
    (c6 : PySem.W.codeIn K cd6 "_law_error_of" = true)
    (k6 : PySem.W.keepIn K (.ref f6) = true)
    (a7 : PySem.W.nsIn K mainGlobals "_law_kept_by" = some (some (.ref f7)))
    (l7 : K.lookup f7 = some ⟨oc7, od7, .func (PySem.W.fnOf "_law_kept_by" "_law_kept_by" (defArgs s__law_kept_by) (defBody s__law_kept_by) (defScope s__law_kept_by) .none kV7 dc7 pm7 an7 cd7 ct7), sl7⟩)
    (c7 : PySem.W.codeIn K cd7 "_law_kept_by" = true)
    (k7 : PySem.W.keepIn K (.ref f7) = true)
    (a8 : PySem.W.nsIn K mainGlobals "_law_raise" = some (some (.ref f8)))
    (l8 : K.lookup f8 = some ⟨oc8, od8, .func (PySem.W.fnOf "_law_raise" "_law_raise" (defArgs s__law_raise) (defBody s__law_raise) (defScope s__law_raise) .none kV8 dc8 pm8 an8 cd8 ct8), sl8⟩)
    (c8 : PySem.W.codeIn K cd8 "_law_raise" = true)
    (k8 : PySem.W.keepIn K (.ref f8) = true)
    (a9 : PySem.W.nsIn K mainGlobals "_law_caught" = some (some (.ref f9)))
    (l9 : K.lookup f9 = some ⟨oc9, od9, .func (PySem.W.fnOf "_law_caught" "_law_caught" (defArgs s__law_caught) (defBody s__law_caught) (defScope s__law_caught) .none kV9 dc9 pm9 an9 cd9 ct9), sl9⟩)
    (c9 : PySem.W.codeIn K cd9 "_law_caught" = true)
    (k9 : PySem.W.keepIn K (.ref f9) = true)
    (a10 : PySem.W.nsIn K mainGlobals "_law_is_caught_above" = some (some (.ref f10)))
    (l10 : K.lookup f10 = some ⟨oc10, od10, .func (PySem.W.fnOf "_law_is_caught_above" "_law_is_caught_above" (defArgs s__law_is_caught_above) (defBody s__law_is_caught_above) (defScope s__law_is_caught_above) .none kV10 dc10 pm10 an10 cd10 ct10), sl10⟩)
    (c10 : PySem.W.codeIn K cd10 "_law_is_caught_above" = true)
    (k10 : PySem.W.keepIn K (.ref f10) = true)
    (a11 : PySem.W.nsIn K mainGlobals "_law_value_of" = some (some (.ref f11)))
    (l11 : K.lookup f11 = some ⟨oc11, od11, .func (PySem.W.fnOf "_law_value_of" "_law_value_of" (defArgs s__law_value_of) (defBody s__law_value_of) (defScope s__law_value_of) .none kV11 dc11 pm11 an11 cd11 ct11), sl11⟩)
    (c11 : PySem.W.codeIn K cd11 "_law_value_of" = true)
    (k11 : PySem.W.keepIn K (.ref f11) = true)
    (a12 : PySem.W.nsIn K mainGlobals "_law_cell_right" = some (some (.ref f12)))
    (l12 : K.lookup f12 = some ⟨oc12, od12, .func (PySem.W.fnOf "_law_cell_right" "_law_cell_right" (defArgs s__law_cell_right) (defBody s__law_cell_right) (defScope s__law_cell_right) .none kV12 dc12 pm12 an12 cd12 ct12), sl12⟩)
    (c12 : PySem.W.codeIn K cd12 "_law_cell_right" = true)
    (k12 : PySem.W.keepIn K (.ref f12) = true)
    (a13 : PySem.W.nsIn K mainGlobals "law" = some (some (.ref f13)))
    (l13 : K.lookup f13 = some ⟨oc13, od13, .func (PySem.W.fnOf "law" "law" (defArgs s_law) (defBody s_law) (defScope s_law) .none kV13 dc13 pm13 an13 cd13 ct13), sl13⟩)
    (c13 : PySem.W.codeIn K cd13 "law" = true)
    (k13 : PySem.W.keepIn K (.ref f13) = true)
    (b_ArithmeticError : PySem.W.nsIn K mainGlobals "ArithmeticError" = some none)
    (b_IndexError : PySem.W.nsIn K mainGlobals "IndexError" = some none)
    (b_KeyError : PySem.W.nsIn K mainGlobals "KeyError" = some none)
    (b_LookupError : PySem.W.nsIn K mainGlobals "LookupError" = some none)
    (b_OverflowError : PySem.W.nsIn K mainGlobals "OverflowError" = some none)
    (b_ValueError : PySem.W.nsIn K mainGlobals "ValueError" = some none)
    (b_ZeroDivisionError : PySem.W.nsIn K mainGlobals "ZeroDivisionError" = some none)
    (b_abs : PySem.W.nsIn K mainGlobals "abs" = some none)
    (b_int : PySem.W.nsIn K mainGlobals "int" = some none)
    (b_isinstance : PySem.W.nsIn K mainGlobals "isinstance" = some none)
    (b_len : PySem.W.nsIn K mainGlobals "len" = some none)
    (b_max : PySem.W.nsIn K mainGlobals "max" = some none)
    (b_min : PySem.W.nsIn K mainGlobals "min" = some none)
    (b_range : PySem.W.nsIn K mainGlobals "range" = some none)
    (b_repr : PySem.W.nsIn K mainGlobals "repr" = some none)
    (b_str : PySem.W.nsIn K mainGlobals "str" = some none)
    (zgF : PySem.W.nsIn K mainGlobals "FallError" = some (some (.ref cF)))
    (zgW : PySem.W.nsIn K mainGlobals "InvalidWord" = some (some (.ref cW)))
    (zgM : PySem.W.nsIn K mainGlobals "InvalidMachine" = some (some (.ref cM)))
    (zgP : PySem.W.nsIn K mainGlobals "InvalidProgram" = some (some (.ref cP)))
    (zgR : PySem.W.nsIn K mainGlobals "InvalidRun" = some (some (.ref cR)))
    (zgL : PySem.W.nsIn K mainGlobals "InvalidLine" = some (some (.ref cL)))
    (zgO : PySem.W.nsIn K mainGlobals "InvalidOperation" = some (some (.ref cO)))
    (zgE : PySem.W.nsIn K mainGlobals "ParseError" = some (some (.ref cE)))
    (zgN : PySem.W.nsIn K mainGlobals "InvalidNumber" = some (some (.ref cN)))
    (zgU : PySem.W.nsIn K mainGlobals "UnknownName" = some (some (.ref cU)))
    (zgT : PySem.W.nsIn K mainGlobals "TooMany" = some (some (.ref cT)))
    (zgB : PySem.W.nsIn K mainGlobals "NothingToUndo" = some (some (.ref cB)))
    (zgD : PySem.W.nsIn K mainGlobals "Needed" = some (some (.ref cD)))
    (zzn : PySem.W.specialIn K (.builtin "object.__class__") "__get__" = some (some (.builtin "getset_descriptor.__get__")))
    (zzt : PySem.W.takesIn K (.builtin "object.__class__") = some true)
    (zkW : PySem.W.keepIn K (.ref cW) = true)
    (zbW : PySem.W.subIn K (.ref cW) (.type "BaseException") = some true)
    (ztW : PySem.W.typeIn K (.ref cW) = some (.type "type"))
    (zaW : PySem.W.findIn K (.ref cW) "__getattribute__" = some (some (.builtin "BaseException.__getattribute__")))
    (zqW : PySem.W.findIn K (.ref cW) "__getattr__" = some none)
    (zhW : PySem.W.hasDictIn K cW = true)
    (zcW : PySem.W.findIn K (.ref cW) "__class__" = some (some (.builtin "object.__class__")))
    (zmW : PySem.W.mroIn K cW (.type "object") = some true)
    (zxW : PySem.W.excIn K cW baseV "ValueError.__new__" = true)
    (zkM : PySem.W.keepIn K (.ref cM) = true)
    (zbM : PySem.W.subIn K (.ref cM) (.type "BaseException") = some true)
    (ztM : PySem.W.typeIn K (.ref cM) = some (.type "type"))
    (zaM : PySem.W.findIn K (.ref cM) "__getattribute__" = some (some (.builtin "BaseException.__getattribute__")))
    (zqM : PySem.W.findIn K (.ref cM) "__getattr__" = some none)
    (zhM : PySem.W.hasDictIn K cM = true)
    (zcM : PySem.W.findIn K (.ref cM) "__class__" = some (some (.builtin "object.__class__")))
    (zmM : PySem.W.mroIn K cM (.type "object") = some true)
    (zxM : PySem.W.excIn K cM baseV "ValueError.__new__" = true)
    (zkP : PySem.W.keepIn K (.ref cP) = true)
    (zbP : PySem.W.subIn K (.ref cP) (.type "BaseException") = some true)
    (ztP : PySem.W.typeIn K (.ref cP) = some (.type "type"))
    (zaP : PySem.W.findIn K (.ref cP) "__getattribute__" = some (some (.builtin "BaseException.__getattribute__")))
    (zqP : PySem.W.findIn K (.ref cP) "__getattr__" = some none)
    (zhP : PySem.W.hasDictIn K cP = true)
    (zcP : PySem.W.findIn K (.ref cP) "__class__" = some (some (.builtin "object.__class__")))
    (zmP : PySem.W.mroIn K cP (.type "object") = some true)
    (zxP : PySem.W.excIn K cP baseV "ValueError.__new__" = true)
    (zkR : PySem.W.keepIn K (.ref cR) = true)
    (zbR : PySem.W.subIn K (.ref cR) (.type "BaseException") = some true)
    (ztR : PySem.W.typeIn K (.ref cR) = some (.type "type"))
    (zaR : PySem.W.findIn K (.ref cR) "__getattribute__" = some (some (.builtin "BaseException.__getattribute__")))
    (zqR : PySem.W.findIn K (.ref cR) "__getattr__" = some none)
    (zhR : PySem.W.hasDictIn K cR = true)
    (zcR : PySem.W.findIn K (.ref cR) "__class__" = some (some (.builtin "object.__class__")))
    (zmR : PySem.W.mroIn K cR (.type "object") = some true)
    (ziR : PySem.W.excInitIn K cR baseV "ValueError.__new__" = true)
    (zoR : PySem.W.findIn K (.ref cR) "index" = some none)
    (zsR : PySem.W.findIn K (.ref cR) "__setattr__" = some (some (.builtin "object.__setattr__")))
    (zIR : PySem.W.findIn K (.ref cR) "__init__" = some (some (.ref fR)))
    (zFR : PySem.W.typeIn K (.ref fR) = some (.type "function"))
    (lIR : K.lookup fR = some ⟨ocR, odR, .func (PySem.W.fnOf "__init__" "InvalidRun.__init__" (defArgs (sI 5)) (defBody (sI 5)) (defScope (sI 5)) .none kVR dcR pmR anR cdR ctR), slR⟩)
    (cIR : PySem.W.codeIn K cdR "InvalidRun.__init__" = true)
    (kIR : PySem.W.keepIn K (.ref fR) = true)
    (zkL : PySem.W.keepIn K (.ref cL) = true)
    (zbL : PySem.W.subIn K (.ref cL) (.type "BaseException") = some true)
    (ztL : PySem.W.typeIn K (.ref cL) = some (.type "type"))
    (zaL : PySem.W.findIn K (.ref cL) "__getattribute__" = some (some (.builtin "BaseException.__getattribute__")))
    (zqL : PySem.W.findIn K (.ref cL) "__getattr__" = some none)
    (zhL : PySem.W.hasDictIn K cL = true)
    (zcL : PySem.W.findIn K (.ref cL) "__class__" = some (some (.builtin "object.__class__")))
    (zmL : PySem.W.mroIn K cL (.type "object") = some true)
    (zxL : PySem.W.excIn K cL baseV "ValueError.__new__" = true)
    (zkO : PySem.W.keepIn K (.ref cO) = true)
    (zbO : PySem.W.subIn K (.ref cO) (.type "BaseException") = some true)
    (ztO : PySem.W.typeIn K (.ref cO) = some (.type "type"))
    (zaO : PySem.W.findIn K (.ref cO) "__getattribute__" = some (some (.builtin "BaseException.__getattribute__")))
    (zqO : PySem.W.findIn K (.ref cO) "__getattr__" = some none)
    (zhO : PySem.W.hasDictIn K cO = true)
    (zcO : PySem.W.findIn K (.ref cO) "__class__" = some (some (.builtin "object.__class__")))
    (zmO : PySem.W.mroIn K cO (.type "object") = some true)
    (zxO : PySem.W.excIn K cO baseV "ValueError.__new__" = true)
    (zkE : PySem.W.keepIn K (.ref cE) = true)
    (zbE : PySem.W.subIn K (.ref cE) (.type "BaseException") = some true)
    (ztE : PySem.W.typeIn K (.ref cE) = some (.type "type"))
    (zaE : PySem.W.findIn K (.ref cE) "__getattribute__" = some (some (.builtin "BaseException.__getattribute__")))
    (zqE : PySem.W.findIn K (.ref cE) "__getattr__" = some none)
    (zhE : PySem.W.hasDictIn K cE = true)
    (zcE : PySem.W.findIn K (.ref cE) "__class__" = some (some (.builtin "object.__class__")))
    (zmE : PySem.W.mroIn K cE (.type "object") = some true)
    (ziE : PySem.W.excInitIn K cE baseV "ValueError.__new__" = true)
    (zoE : PySem.W.findIn K (.ref cE) "line" = some none)
    (zsE : PySem.W.findIn K (.ref cE) "__setattr__" = some (some (.builtin "object.__setattr__")))
    (zIE : PySem.W.findIn K (.ref cE) "__init__" = some (some (.ref fE)))
    (zFE : PySem.W.typeIn K (.ref fE) = some (.type "function"))
    (lIE : K.lookup fE = some ⟨ocE, odE, .func (PySem.W.fnOf "__init__" "ParseError.__init__" (defArgs (sI 8)) (defBody (sI 8)) (defScope (sI 8)) .none kVE dcE pmE anE cdE ctE), slE⟩)
    (cIE : PySem.W.codeIn K cdE "ParseError.__init__" = true)
    (kIE : PySem.W.keepIn K (.ref fE) = true)
    (zkN : PySem.W.keepIn K (.ref cN) = true)
    (zbN : PySem.W.subIn K (.ref cN) (.type "BaseException") = some true)
    (ztN : PySem.W.typeIn K (.ref cN) = some (.type "type"))
    (zaN : PySem.W.findIn K (.ref cN) "__getattribute__" = some (some (.builtin "BaseException.__getattribute__")))
    (zqN : PySem.W.findIn K (.ref cN) "__getattr__" = some none)
    (zhN : PySem.W.hasDictIn K cN = true)
    (zcN : PySem.W.findIn K (.ref cN) "__class__" = some (some (.builtin "object.__class__")))
    (zmN : PySem.W.mroIn K cN (.type "object") = some true)
    (ziN : PySem.W.excInitIn K cN baseI "IndexError.__new__" = true)
    (zoN : PySem.W.findIn K (.ref cN) "value" = some none)
    (zsN : PySem.W.findIn K (.ref cN) "__setattr__" = some (some (.builtin "object.__setattr__")))
    (zIN : PySem.W.findIn K (.ref cN) "__init__" = some (some (.ref fN)))
    (zFN : PySem.W.typeIn K (.ref fN) = some (.type "function"))
    (lIN : K.lookup fN = some ⟨ocN, odN, .func (PySem.W.fnOf "__init__" "InvalidNumber.__init__" (defArgs (sI 9)) (defBody (sI 9)) (defScope (sI 9)) .none kVN dcN pmN anN cdN ctN), slN⟩)
    (cIN : PySem.W.codeIn K cdN "InvalidNumber.__init__" = true)
    (kIN : PySem.W.keepIn K (.ref fN) = true)
    (zkU : PySem.W.keepIn K (.ref cU) = true)
    (zbU : PySem.W.subIn K (.ref cU) (.type "BaseException") = some true)
    (ztU : PySem.W.typeIn K (.ref cU) = some (.type "type"))
    (zaU : PySem.W.findIn K (.ref cU) "__getattribute__" = some (some (.builtin "BaseException.__getattribute__")))
    (zqU : PySem.W.findIn K (.ref cU) "__getattr__" = some none)
    (zhU : PySem.W.hasDictIn K cU = true)
    (zcU : PySem.W.findIn K (.ref cU) "__class__" = some (some (.builtin "object.__class__")))
    (zmU : PySem.W.mroIn K cU (.type "object") = some true)
    (ziU : PySem.W.excInitIn K cU baseK "LookupError.__new__" = true)
    (zoU : PySem.W.findIn K (.ref cU) "name" = some none)
    (zsU : PySem.W.findIn K (.ref cU) "__setattr__" = some (some (.builtin "object.__setattr__")))
    (zIU : PySem.W.findIn K (.ref cU) "__init__" = some (some (.ref fU)))
    (zFU : PySem.W.typeIn K (.ref fU) = some (.type "function"))
    (lIU : K.lookup fU = some ⟨ocU, odU, .func (PySem.W.fnOf "__init__" "UnknownName.__init__" (defArgs (sI 10)) (defBody (sI 10)) (defScope (sI 10)) .none kVU dcU pmU anU cdU ctU), slU⟩)
    (cIU : PySem.W.codeIn K cdU "UnknownName.__init__" = true)
    (kIU : PySem.W.keepIn K (.ref fU) = true)
    (zkT : PySem.W.keepIn K (.ref cT) = true)
    (zbT : PySem.W.subIn K (.ref cT) (.type "BaseException") = some true)
    (ztT : PySem.W.typeIn K (.ref cT) = some (.type "type"))
    (zaT : PySem.W.findIn K (.ref cT) "__getattribute__" = some (some (.builtin "BaseException.__getattribute__")))
    (zqT : PySem.W.findIn K (.ref cT) "__getattr__" = some none)
    (zhT : PySem.W.hasDictIn K cT = true)
    (zcT : PySem.W.findIn K (.ref cT) "__class__" = some (some (.builtin "object.__class__")))
    (zmT : PySem.W.mroIn K cT (.type "object") = some true)
    (ziT : PySem.W.excInitIn K cT baseO "OverflowError.__new__" = true)
    (zoT : PySem.W.findIn K (.ref cT) "limit" = some none)
    (zsT : PySem.W.findIn K (.ref cT) "__setattr__" = some (some (.builtin "object.__setattr__")))
    (zIT : PySem.W.findIn K (.ref cT) "__init__" = some (some (.ref fT)))
    (zFT : PySem.W.typeIn K (.ref fT) = some (.type "function"))
    (lIT : K.lookup fT = some ⟨ocT, odT, .func (PySem.W.fnOf "__init__" "TooMany.__init__" (defArgs (sI 11)) (defBody (sI 11)) (defScope (sI 11)) .none kVT dcT pmT anT cdT ctT), slT⟩)
    (cIT : PySem.W.codeIn K cdT "TooMany.__init__" = true)
    (kIT : PySem.W.keepIn K (.ref fT) = true)
    (zkB : PySem.W.keepIn K (.ref cB) = true)
    (zbB : PySem.W.subIn K (.ref cB) (.type "BaseException") = some true)
    (ztB : PySem.W.typeIn K (.ref cB) = some (.type "type"))
    (zaB : PySem.W.findIn K (.ref cB) "__getattribute__" = some (some (.builtin "BaseException.__getattribute__")))
    (zqB : PySem.W.findIn K (.ref cB) "__getattr__" = some none)
    (zhB : PySem.W.hasDictIn K cB = true)
    (zcB : PySem.W.findIn K (.ref cB) "__class__" = some (some (.builtin "object.__class__")))
    (zmB : PySem.W.mroIn K cB (.type "object") = some true)
    (ziB : PySem.W.excInitIn K cB baseL "LookupError.__new__" = true)
    (zoB : PySem.W.findIn K (.ref cB) "many" = some none)
    (zsB : PySem.W.findIn K (.ref cB) "__setattr__" = some (some (.builtin "object.__setattr__")))
    (zIB : PySem.W.findIn K (.ref cB) "__init__" = some (some (.ref fB)))
    (zFB : PySem.W.typeIn K (.ref fB) = some (.type "function"))
    (lIB : K.lookup fB = some ⟨ocB, odB, .func (PySem.W.fnOf "__init__" "NothingToUndo.__init__" (defArgs (sI 12)) (defBody (sI 12)) (defScope (sI 12)) .none kVB dcB pmB anB cdB ctB), slB⟩)
    (cIB : PySem.W.codeIn K cdB "NothingToUndo.__init__" = true)
    (kIB : PySem.W.keepIn K (.ref fB) = true)
    (zkD : PySem.W.keepIn K (.ref cD) = true)
    (zbD : PySem.W.subIn K (.ref cD) (.type "BaseException") = some true)
    (ztD : PySem.W.typeIn K (.ref cD) = some (.type "type"))
    (zaD : PySem.W.findIn K (.ref cD) "__getattribute__" = some (some (.builtin "BaseException.__getattribute__")))
    (zqD : PySem.W.findIn K (.ref cD) "__getattr__" = some none)
    (zhD : PySem.W.hasDictIn K cD = true)
    (zcD : PySem.W.findIn K (.ref cD) "__class__" = some (some (.builtin "object.__class__")))
    (zmD : PySem.W.mroIn K cD (.type "object") = some true)
    (ziD : PySem.W.excInitIn K cD baseA "ArithmeticError.__new__" = true)
    (zoD : PySem.W.findIn K (.ref cD) "place" = some none)
    (zsD : PySem.W.findIn K (.ref cD) "__setattr__" = some (some (.builtin "object.__setattr__")))
    (zID : PySem.W.findIn K (.ref cD) "__init__" = some (some (.ref fD)))
    (zFD : PySem.W.typeIn K (.ref fD) = some (.type "function"))
    (lID : K.lookup fD = some ⟨ocD, odD, .func (PySem.W.fnOf "__init__" "Needed.__init__" (defArgs (sI 13)) (defBody (sI 13)) (defScope (sI 13)) .none kVD dcD pmD anD cdD ctD), slD⟩)
    (cID : PySem.W.codeIn K cdD "Needed.__init__" = true)
    (kID : PySem.W.keepIn K (.ref fD) = true)
    (yfN : PySem.W.findIn K (.ref cN) "__str__" = some (some (.ref sN)))
    (yiN : PySem.W.isFn K (.ref sN) = true)
    (ylN : K.lookup sN = some ⟨ocSN, odSN, .func (PySem.W.fnOf "__str__" "InvalidNumber.__str__" (defArgs (sS 9)) (defBody (sS 9)) (defScope (sS 9)) .none kVSN dcSN pmSN anSN cdSN ctSN), slSN⟩)
    (ycN : PySem.W.codeIn K cdSN "InvalidNumber.__str__" = true)
    (ykN : PySem.W.keepIn K (.ref sN) = true)
    (yfU : PySem.W.findIn K (.ref cU) "__str__" = some (some (.ref sU)))
    (yiU : PySem.W.isFn K (.ref sU) = true)
    (ylU : K.lookup sU = some ⟨ocSU, odSU, .func (PySem.W.fnOf "__str__" "UnknownName.__str__" (defArgs (sS 10)) (defBody (sS 10)) (defScope (sS 10)) .none kVSU dcSU pmSU anSU cdSU ctSU), slSU⟩)
    (ycU : PySem.W.codeIn K cdSU "UnknownName.__str__" = true)
    (ykU : PySem.W.keepIn K (.ref sU) = true)
    (qk1 : Kit1 K ⟨cF, cW, cM, cP, cR, cL, cO, cE, cN, cU, cT, cB, cD⟩)
    (qe1 : Exm1 K ⟨cF, cW, cM, cP, cR, cL, cO, cE, cN, cU, cT, cB, cD⟩)
    (qk2 : Kit2 K ⟨cF, cW, cM, cP, cR, cL, cO, cE, cN, cU, cT, cB, cD⟩)
    (qe2 : Exm2 K ⟨cF, cW, cM, cP, cR, cL, cO, cE, cN, cU, cT, cB, cD⟩)
    (qk3 : Kit3 K ⟨cF, cW, cM, cP, cR, cL, cO, cE, cN, cU, cT, cB, cD⟩)
    (qe3 : Exm3 K ⟨cF, cW, cM, cP, cR, cL, cO, cE, cN, cU, cT, cB, cD⟩)
    (qk4 : Kit4 K ⟨cF, cW, cM, cP, cR, cL, cO, cE, cN, cU, cT, cB, cD⟩)
    (qe4 : Exm4 K ⟨cF, cW, cM, cP, cR, cL, cO, cE, cN, cU, cT, cB, cD⟩)
    (qk5 : Kit5 K ⟨cF, cW, cM, cP, cR, cL, cO, cE, cN, cU, cT, cB, cD⟩)
    (qe5 : Exm5 K ⟨cF, cW, cM, cP, cR, cL, cO, cE, cN, cU, cT, cB, cD⟩)
    (qk6 : Kit6 K ⟨cF, cW, cM, cP, cR, cL, cO, cE, cN, cU, cT, cB, cD⟩)
    (qe6 : Exm6 K ⟨cF, cW, cM, cP, cR, cL, cO, cE, cN, cU, cT, cB, cD⟩)
    (qk7 : Kit7 K ⟨cF, cW, cM, cP, cR, cL, cO, cE, cN, cU, cT, cB, cD⟩)
    (qe7 : Exm7 K ⟨cF, cW, cM, cP, cR, cL, cO, cE, cN, cU, cT, cB, cD⟩)
    (qk8 : Kit8 K ⟨cF, cW, cM, cP, cR, cL, cO, cE, cN, cU, cT, cB, cD⟩)
    (qe8 : Exm8 K ⟨cF, cW, cM, cP, cR, cL, cO, cE, cN, cU, cT, cB, cD⟩)
    (qk9 : Kit9 K ⟨cF, cW, cM, cP, cR, cL, cO, cE, cN, cU, cT, cB, cD⟩)
    (qe9 : Exm9 K ⟨cF, cW, cM, cP, cR, cL, cO, cE, cN, cU, cT, cB, cD⟩)
    (qk10 : Kit10 K ⟨cF, cW, cM, cP, cR, cL, cO, cE, cN, cU, cT, cB, cD⟩)
    (qe10 : Exm10 K ⟨cF, cW, cM, cP, cR, cL, cO, cE, cN, cU, cT, cB, cD⟩)
    (qk11 : Kit11 K ⟨cF, cW, cM, cP, cR, cL, cO, cE, cN, cU, cT, cB, cD⟩)
    (qe11 : Exm11 K ⟨cF, cW, cM, cP, cR, cL, cO, cE, cN, cU, cT, cB, cD⟩)
    (qk12 : Kit12 K ⟨cF, cW, cM, cP, cR, cL, cO, cE, cN, cU, cT, cB, cD⟩)
    (qe12 : Exm12 K ⟨cF, cW, cM, cP, cR, cL, cO, cE, cN, cU, cT, cB, cD⟩)
    (neUN : ¬ cU = cN)
    : ∃ fd : FuncData, (∀ (s : Shared) (u : Value), BindsTo s fd ⟨[u], []⟩ [("_law_script", u)]) ∧ ∀ (base : Heap) (ns : List Int), ns.length ≤ 63 → K.In base → base.Ns mainGlobals mg → LamB K mg base → ∃ g M', FnG l.prog w K mg base CX0 7 fa fd ["_law_script"] g ∧ g [.scr (ns.map D.int)] [] = .ok (.bl true) M' := by
  have e := hfa.symm.trans (PySem.W.mg_of X G a13)
  cases e
  have F0 := fun_mk (st := s__law_stock) l0 c0 k0
  have B0 := F0.binds (ps := ["_law_script", "_law_at"]) fun _ _ _ _ _ _ us hl => match us, hl with | [_, _], _ => rfl
  have F1 := fun_mk (st := s__law_draw) l1 c1 k1
  have B1 := F1.binds (ps := ["_law_stock_here", "_law_total"]) fun _ _ _ _ _ _ us hl => match us, hl with | [_, _], _ => rfl
  have F2 := fun_mk (st := s__law_pick) l2 c2 k2
  have B2 := F2.binds (ps := ["_law_stock_here", "_law_items"]) fun _ _ _ _ _ _ us hl => match us, hl with | [_, _], _ => rfl
  have F3 := fun_mk (st := s__law_own_classes) l3 c3 k3
  have B3 := F3.binds (ps := ["_law_error"]) fun _ _ _ _ _ _ us hl => match us, hl with | [_], _ => rfl
  have F4 := fun_mk (st := s__law_other_classes) l4 c4 k4
  have B4 := F4.binds (ps := ["_law_error"]) fun _ _ _ _ _ _ us hl => match us, hl with | [_], _ => rfl
  have F5 := fun_mk (st := s__law_due_classes) l5 c5 k5
  have B5 := F5.binds (ps := ["_law_at"]) fun _ _ _ _ _ _ us hl => match us, hl with | [_], _ => rfl
  have F6 := fun_mk (st := s__law_error_of) l6 c6 k6
  have B6 := F6.binds (ps := ["_law_at", "_law_value", "_law_text"]) fun _ _ _ _ _ _ us hl => match us, hl with | [_, _, _], _ => rfl
  have F7 := fun_mk (st := s__law_kept_by) l7 c7 k7
  have B7 := F7.binds (ps := ["_law_at", "_law_error"]) fun _ _ _ _ _ _ us hl => match us, hl with | [_, _], _ => rfl
  have F8 := fun_mk (st := s__law_raise) l8 c8 k8
  have B8 := F8.binds (ps := ["_law_at", "_law_value", "_law_text"]) fun _ _ _ _ _ _ us hl => match us, hl with | [_, _, _], _ => rfl
  have F9 := fun_mk (st := s__law_caught) l9 c9 k9
  have B9 := F9.binds (ps := ["_law_at", "_law_value", "_law_text"]) fun _ _ _ _ _ _ us hl => match us, hl with | [_, _, _], _ => rfl
  have F10 := fun_mk (st := s__law_is_caught_above) l10 c10 k10
  have B10 := F10.binds (ps := ["_law_at", "_law_value", "_law_text"]) fun _ _ _ _ _ _ us hl => match us, hl with | [_, _, _], _ => rfl
  have F11 := fun_mk (st := s__law_value_of) l11 c11 k11
  have B11 := F11.binds (ps := ["_law_stock_here", "_law_at"]) fun _ _ _ _ _ _ us hl => match us, hl with | [_, _], _ => rfl
  have F12 := fun_mk (st := s__law_cell_right) l12 c12 k12
  have B12 := F12.binds (ps := ["_law_stock_here"]) fun _ _ _ _ _ _ us hl => match us, hl with | [_], _ => rfl
  have F13 := fun_mk (st := s_law) l13 c13 k13
  have TX : Txt K mg  := ⟨PySem.W.mg_none_of X G b_ArithmeticError,
    PySem.W.mg_none_of X G b_IndexError,
    PySem.W.mg_none_of X G b_KeyError,
    PySem.W.mg_none_of X G b_LookupError,
    PySem.W.mg_none_of X G b_OverflowError,
    PySem.W.mg_none_of X G b_ValueError,
    PySem.W.mg_none_of X G b_ZeroDivisionError,
    PySem.W.mg_none_of X G b_abs,
    PySem.W.mg_none_of X G b_int,
    PySem.W.mg_none_of X G b_isinstance,
    PySem.W.mg_none_of X G b_len,
    PySem.W.mg_none_of X G b_max,
    PySem.W.mg_none_of X G b_min,
    PySem.W.mg_none_of X G b_range,
    PySem.W.mg_none_of X G b_repr,
    PySem.W.mg_none_of X G b_str⟩
  refine ⟨PySem.W.fnOf "law" "law" (defArgs s_law) (defBody s_law) (defScope s_law) .none kV13 dc13 pm13 an13 cd13 ct13, fun s v => .of_eq rfl, fun base ns hl X1 G1 TB => ?_⟩
  have HEC : ∀ C ∈ allE ⟨cF, cW, cM, cP, cR, cL, cO, cE, cN, cU, cT, cB, cD⟩, ExcC K C := by
    intro C hC
    simp only [allE, List.mem_cons, List.not_mem_nil, or_false] at hC
    rcases hC with rfl | rfl | rfl | rfl | rfl | rfl | rfl | rfl | rfl | rfl | rfl | rfl
    · exact ⟨zaW, zqW, zbW, zhW, zcW, zzn, zzt, zmW⟩
    · exact ⟨zaM, zqM, zbM, zhM, zcM, zzn, zzt, zmM⟩
    · exact ⟨zaP, zqP, zbP, zhP, zcP, zzn, zzt, zmP⟩
    · exact ⟨zaR, zqR, zbR, zhR, zcR, zzn, zzt, zmR⟩
    · exact ⟨zaL, zqL, zbL, zhL, zcL, zzn, zzt, zmL⟩
    · exact ⟨zaO, zqO, zbO, zhO, zcO, zzn, zzt, zmO⟩
    · exact ⟨zaE, zqE, zbE, zhE, zcE, zzn, zzt, zmE⟩
    · exact ⟨zaN, zqN, zbN, zhN, zcN, zzn, zzt, zmN⟩
    · exact ⟨zaU, zqU, zbU, zhU, zcU, zzn, zzt, zmU⟩
    · exact ⟨zaT, zqT, zbT, zhT, zcT, zzn, zzt, zmT⟩
    · exact ⟨zaB, zqB, zbB, zhB, zcB, zzn, zzt, zmB⟩
    · exact ⟨zaD, zqD, zbD, zhD, zcD, zzn, zzt, zmD⟩
  have OX : Objs K mg ⟨cF, cW, cM, cP, cR, cL, cO, cE, cN, cU, cT, cB, cD⟩ ⟨fR, fE, fN, fU, fT, fB, fD⟩ := ⟨PySem.W.mg_of X G zgF, ⟨PySem.W.mg_of X G zgW, zxW, zkW, zbW, ztW⟩, ⟨PySem.W.mg_of X G zgM, zxM, zkM, zbM, ztM⟩, ⟨PySem.W.mg_of X G zgP, zxP, zkP, zbP, ztP⟩, ⟨PySem.W.mg_of X G zgR, ⟨ziR, zhR, zoR, zsR, zbR, ztR, zkR⟩, zIR, zFR, ⟨zaR, zqR, zbR, zhR⟩⟩, ⟨PySem.W.mg_of X G zgL, zxL, zkL, zbL, ztL⟩, ⟨PySem.W.mg_of X G zgO, zxO, zkO, zbO, ztO⟩, ⟨PySem.W.mg_of X G zgE, ⟨ziE, zhE, zoE, zsE, zbE, ztE, zkE⟩, zIE, zFE, ⟨zaE, zqE, zbE, zhE⟩⟩, ⟨PySem.W.mg_of X G zgN, ⟨ziN, zhN, zoN, zsN, zbN, ztN, zkN⟩, zIN, zFN, ⟨zaN, zqN, zbN, zhN⟩⟩, ⟨PySem.W.mg_of X G zgU, ⟨ziU, zhU, zoU, zsU, zbU, ztU, zkU⟩, zIU, zFU, ⟨zaU, zqU, zbU, zhU⟩⟩, ⟨PySem.W.mg_of X G zgT, ⟨ziT, zhT, zoT, zsT, zbT, ztT, zkT⟩, zIT, zFT, ⟨zaT, zqT, zbT, zhT⟩⟩, ⟨PySem.W.mg_of X G zgB, ⟨ziB, zhB, zoB, zsB, zbB, ztB, zkB⟩, zIB, zFB, ⟨zaB, zqB, zbB, zhB⟩⟩, ⟨PySem.W.mg_of X G zgD, ⟨ziD, zhD, zoD, zsD, zbD, ztD, zkD⟩, zID, zFD, ⟨zaD, zqD, zbD, zhD⟩⟩, HEC⟩
  have FIR := fun_mk (st := sI 5) lIR cIR kIR
  have bIR := FIR.binds (ps := ["self", "index"]) fun _ _ _ _ _ _ us hl => match us, hl with | [_, _], _ => rfl
  have GIR : IniOk l.prog w K mg base fR cR "index" "index" := ini_ok FIR scIR rfl PySem.F.store_ValueError OX.R.T (fun _ => rfl) bIR (by decide) (by decide)
  have FIE := fun_mk (st := sI 8) lIE cIE kIE
  have bIE := FIE.binds (ps := ["self", "line"]) fun _ _ _ _ _ _ us hl => match us, hl with | [_, _], _ => rfl
  have GIE : IniOk l.prog w K mg base fE cE "line" "line" := ini_ok FIE scIE rfl PySem.F.store_ValueError OX.E.T (fun _ => rfl) bIE (by decide) (by decide)
  have FIN := fun_mk (st := sI 9) lIN cIN kIN
  have bIN := FIN.binds (ps := ["self", "value"]) fun _ _ _ _ _ _ us hl => match us, hl with | [_, _], _ => rfl
  have GIN : IniOk l.prog w K mg base fN cN "value" "value" := ini_ok FIN scIN rfl PySem.F.store_IndexError OX.N.T (fun _ => rfl) bIN (by decide) (by decide)
  have FIU := fun_mk (st := sI 10) lIU cIU kIU
  have bIU := FIU.binds (ps := ["self", "name"]) fun _ _ _ _ _ _ us hl => match us, hl with | [_, _], _ => rfl
  have GIU : IniOk l.prog w K mg base fU cU "name" "name" := ini_ok FIU scIU rfl DenKey.store_KeyError OX.U.T (fun _ => rfl) bIU (by decide) (by decide)
  have FIT := fun_mk (st := sI 11) lIT cIT kIT
  have bIT := FIT.binds (ps := ["self", "limit"]) fun _ _ _ _ _ _ us hl => match us, hl with | [_, _], _ => rfl
  have GIT : IniOk l.prog w K mg base fT cT "limit" "limit" := ini_ok FIT scIT rfl PySem.F.store_OverflowError OX.T.T (fun _ => rfl) bIT (by decide) (by decide)
  have FIB := fun_mk (st := sI 12) lIB cIB kIB
  have bIB := FIB.binds (ps := ["self", "many"]) fun _ _ _ _ _ _ us hl => match us, hl with | [_, _], _ => rfl
  have GIB : IniOk l.prog w K mg base fB cB "many" "many" := ini_ok FIB scIB rfl PySem.F.store_LookupError OX.B.T (fun _ => rfl) bIB (by decide) (by decide)
  have FID := fun_mk (st := sI 13) lID cID kID
  have bID := FID.binds (ps := ["self", "place"]) fun _ _ _ _ _ _ us hl => match us, hl with | [_, _], _ => rfl
  have GID : IniOk l.prog w K mg base fD cD "place" "place" := ini_ok FID scID rfl PySem.F.store_ArithmeticError OX.D.T (fun _ => rfl) bID (by decide) (by decide)
  have GE : Inits l.prog w K mg base ⟨cF, cW, cM, cP, cR, cL, cO, cE, cN, cU, cT, cB, cD⟩ ⟨fR, fE, fN, fU, fT, fB, fD⟩ := ⟨GIR, GIE, GIN, GIU, GIT, GIB, GID⟩
  have FSN := fun_mk (st := sS 9) ylN ycN ykN
  have bSN := FSN.binds (ps := ["self"]) fun _ _ _ _ _ _ us hl => match us, hl with | [_], _ => rfl
  have GSN : StrOf l.prog w K mg base 1 cN (gStrF cN "value") := str_ok FSN (scSt 9 (by decide)) rfl TX OX.N.X OX.N.T.no (by decide +kernel) yfN yiN bSN
  have FSU := fun_mk (st := sS 10) ylU ycU ykU
  have bSU := FSU.binds (ps := ["self"]) fun _ _ _ _ _ _ us hl => match us, hl with | [_], _ => rfl
  have GSU : StrOf l.prog w K mg base 1 cU (gStrF cU "name") := str_ok FSU (scSt 10 (by decide)) rfl TX OX.U.X OX.U.T.no (by decide +kernel) yfU yiU bSU
  have SE : Strs l.prog w K mg base ⟨cF, cW, cM, cP, cR, cL, cO, cE, cN, cU, cT, cB, cD⟩ := ⟨GSN, GSU⟩
  have HKF : KF K ⟨cF, cW, cM, cP, cR, cL, cO, cE, cN, cU, cT, cB, cD⟩ := ⟨qk1, qe1, qk2, qe2, qk3, qe3, qk4, qe4, qk5, qe5, qk6, qe6, qk7, qe7, qk8, qe8, qk9, qe9, qk10, qe10, qk11, qe11, qk12, qe12, neUN⟩
  have G0 : FnG l.prog w K mg base CX0 1 f0 _ ["_law_script", "_law_at"] (g__law_stock) := ok__law_stock F0 TX
  have K0 : CalG l.prog w K mg base 1 "_law_stock" 2 (g__law_stock) := ⟨⟨_, _, _, PySem.W.mg_of X G a0, k0, B0, rfl, G0⟩⟩
  have G1 : FnG l.prog w K mg base CX0 1 f1 _ ["_law_stock_here", "_law_total"] (g__law_draw) := ok__law_draw F1 TX
  have K1 : CalG l.prog w K mg base 1 "_law_draw" 2 (g__law_draw) := ⟨⟨_, _, _, PySem.W.mg_of X G a1, k1, B1, rfl, G1⟩⟩
  have G3 : FnG l.prog w K mg base CX0 1 f3 _ ["_law_error"] (g__law_own_classes K ⟨cF, cW, cM, cP, cR, cL, cO, cE, cN, cU, cT, cB, cD⟩) := ok__law_own_classes F3 TX OX 
  have K3 : CalG l.prog w K mg base 1 "_law_own_classes" 1 (g__law_own_classes K ⟨cF, cW, cM, cP, cR, cL, cO, cE, cN, cU, cT, cB, cD⟩) := ⟨⟨_, _, _, PySem.W.mg_of X G a3, k3, B3, rfl, G3⟩⟩
  have G4 : FnG l.prog w K mg base CX0 1 f4 _ ["_law_error"] (g__law_other_classes K ⟨cF, cW, cM, cP, cR, cL, cO, cE, cN, cU, cT, cB, cD⟩) := ok__law_other_classes F4 TX OX 
  have K4 : CalG l.prog w K mg base 1 "_law_other_classes" 1 (g__law_other_classes K ⟨cF, cW, cM, cP, cR, cL, cO, cE, cN, cU, cT, cB, cD⟩) := ⟨⟨_, _, _, PySem.W.mg_of X G a4, k4, B4, rfl, G4⟩⟩
  have G5 : FnG l.prog w K mg base CX0 1 f5 _ ["_law_at"] (g__law_due_classes) := ok__law_due_classes F5 TX
  have K5 : CalG l.prog w K mg base 1 "_law_due_classes" 1 (g__law_due_classes) := ⟨⟨_, _, _, PySem.W.mg_of X G a5, k5, B5, rfl, G5⟩⟩
  have G7 : FnG l.prog w K mg base CX0 1 f7 _ ["_law_at", "_law_error"] (g__law_kept_by K ⟨cF, cW, cM, cP, cR, cL, cO, cE, cN, cU, cT, cB, cD⟩) := ok__law_kept_by F7 TX OX 
  have K7 : CalG l.prog w K mg base 1 "_law_kept_by" 2 (g__law_kept_by K ⟨cF, cW, cM, cP, cR, cL, cO, cE, cN, cU, cT, cB, cD⟩) := ⟨⟨_, _, _, PySem.W.mg_of X G a7, k7, B7, rfl, G7⟩⟩
  have G2 : FnG l.prog w K mg base CX0 2 f2 _ ["_law_stock_here", "_law_items"] (g__law_pick) := ok__law_pick F2 TX K1
  have K2 : CalG l.prog w K mg base 2 "_law_pick" 2 (g__law_pick) := ⟨⟨_, _, _, PySem.W.mg_of X G a2, k2, B2, rfl, G2⟩⟩
  have G6 : FnG l.prog w K mg base CX0 3 f6 _ ["_law_at", "_law_value", "_law_text"] (g__law_error_of K ⟨cF, cW, cM, cP, cR, cL, cO, cE, cN, cU, cT, cB, cD⟩) := ok__law_error_of F6 TX OX GE
  have K6 : CalG l.prog w K mg base 3 "_law_error_of" 3 (g__law_error_of K ⟨cF, cW, cM, cP, cR, cL, cO, cE, cN, cU, cT, cB, cD⟩) := ⟨⟨_, _, _, PySem.W.mg_of X G a6, k6, B6, rfl, G6⟩⟩
  have G8 : FnOk l.prog w K mg base (L2.CX l.prog w) 3 f8 _ ["_law_at", "_law_value", "_law_text"] (spD K 3 (g__law_raise K ⟨cF, cW, cM, cP, cR, cL, cO, cE, cN, cU, cT, cB, cD⟩)) := ok__law_raise F8 TX OX GE
  have K8 : CalX l.prog w K mg base 3 "_law_raise" 3 (g__law_raise K ⟨cF, cW, cM, cP, cR, cL, cO, cE, cN, cU, cT, cB, cD⟩) := ⟨⟨_, _, _, PySem.W.mg_of X G a8, k8, B8, rfl, G8⟩⟩
  have G11 : FnG l.prog w K mg base CX0 3 f11 _ ["_law_stock_here", "_law_at"] (g__law_value_of) := ok__law_value_of F11 TX K1 K2
  have K11 : CalG l.prog w K mg base 3 "_law_value_of" 2 (g__law_value_of) := ⟨⟨_, _, _, PySem.W.mg_of X G a11, k11, B11, rfl, G11⟩⟩
  have G9 : FnG l.prog w K mg base CX0 4 f9 _ ["_law_at", "_law_value", "_law_text"] (g__law_caught K ⟨cF, cW, cM, cP, cR, cL, cO, cE, cN, cU, cT, cB, cD⟩) := ok__law_caught F9 TX OX K8
  have K9 : CalG l.prog w K mg base 4 "_law_caught" 3 (g__law_caught K ⟨cF, cW, cM, cP, cR, cL, cO, cE, cN, cU, cT, cB, cD⟩) := ⟨⟨_, _, _, PySem.W.mg_of X G a9, k9, B9, rfl, G9⟩⟩
  have G10 : FnG l.prog w K mg base CX0 4 f10 _ ["_law_at", "_law_value", "_law_text"] (g__law_is_caught_above K ⟨cF, cW, cM, cP, cR, cL, cO, cE, cN, cU, cT, cB, cD⟩) := ok__law_is_caught_above F10 TX OX K8
  have K10 : CalG l.prog w K mg base 4 "_law_is_caught_above" 3 (g__law_is_caught_above K ⟨cF, cW, cM, cP, cR, cL, cO, cE, cN, cU, cT, cB, cD⟩) := ⟨⟨_, _, _, PySem.W.mg_of X G a10, k10, B10, rfl, G10⟩⟩
  have G12 : FnG l.prog w K mg base CX0 6 f12 _ ["_law_stock_here"] (g__law_cell_right K ⟨cF, cW, cM, cP, cR, cL, cO, cE, cN, cU, cT, cB, cD⟩) := ok__law_cell_right F12 TX OX SE K9 K5 K6 K10 K7 K4 K3 K11
  have K12 : CalG l.prog w K mg base 6 "_law_cell_right" 1 (g__law_cell_right K ⟨cF, cW, cM, cP, cR, cL, cO, cE, cN, cU, cT, cB, cD⟩) := ⟨⟨_, _, _, PySem.W.mg_of X G a12, k12, B12, rfl, G12⟩⟩
  have G13 : FnG l.prog w K mg base CX0 7 fa _ ["_law_script"] (g_law K ⟨cF, cW, cM, cP, cR, cL, cO, cE, cN, cU, cT, cB, cD⟩) := ok_law F13 TX OX K12 K0
  obtain ⟨M1, e1⟩ := law_right HKF  (ns := ns) hl
  exact ⟨_, M1, G13, e1⟩
end K01

open PySem PySem.W PyProof.Rows in
set_option maxRecDepth 100000 in
set_option maxHeartbeats 0 in
theorem PySem.Challenge.cw_fallsback_k01_whole_errors_of_the_packag_holds : PySem.Challenge.rw_fallsback_k01_whole_errors_of_the_packag.Holds := by
  w_on; o_law; k_head; (case hw => w_witness2)
  k_fill
  refine Den.walkG (n := 63) (k := 7) (x := "_law_script") (l := PySem.Challenge.rw_fallsback_k01_whole_errors_of_the_packag) rfl (by decide) rfl ⟨rfl, by decide, by decide⟩ (fun w h Y => PySem.W.kIn_of Y) ?Q ?F
  case Q =>
    intro w x hx
    simp only [Den.lamNames, List.mem_cons, List.not_mem_nil, or_false] at hx
    rcases hx with rfl | rfl | rfl | rfl | rfl | rfl
    · exact .inl (Den.tab_none (by k_is))
    · first | exact .inl (Den.tab_none (by k_is)) | (refine' .inr ⟨(_, _), _, Den.tab_some ?zza2 ?zzl2 ?zzk2 ?zzm2 ?zzv2, ?zzu2, ?zzw2⟩; (case zza2 => k_is); (case zzl2 => k_is); (case zzk2 => rfl); (case zzm2 => k_is); (case zzv2 => rfl); (case zzu2 => first | k_is | rfl | decide); (case zzw2 => rfl))
    · exact .inl (Den.tab_none (by k_is))
    · exact .inl (Den.tab_none (by k_is))
    · exact .inl (Den.tab_none (by k_is))
    · exact .inl (Den.tab_none (by k_is))
  case F =>
    intro w mg fa h KX G hmg
    refine' K01.all_mk KX G hmg ?a0 ?l0 ?c0 ?k0 ?a1 ?l1 ?c1 ?k1 ?a2 ?l2 ?c2 ?k2 ?a3 ?l3 ?c3 ?k3 ?a4 ?l4 ?c4 ?k4 ?a5 ?l5 ?c5 ?k5 ?a6 ?l6 ?c6 ?k6 ?a7 ?l7 ?c7 ?k7 ?a8 ?l8 ?c8 ?k8 ?a9 ?l9 ?c9 ?k9 ?a10 ?l10 ?c10 ?k10 ?a11 ?l11 ?c11 ?k11 ?a12 ?l12 ?c12 ?k12 ?a13 ?l13 ?c13 ?k13 ?b_ArithmeticError ?b_IndexError ?b_KeyError ?b_LookupError ?b_OverflowError ?b_ValueError ?b_ZeroDivisionError ?b_abs ?b_int ?b_isinstance ?b_len ?b_max ?b_min ?b_range ?b_repr ?b_str ?zgF ?zgW ?zgM ?zgP ?zgR ?zgL ?zgO ?zgE ?zgN ?zgU ?zgT ?zgB ?zgD ?zzn ?zzt ?zkW ?zbW ?ztW ?zaW ?zqW ?zhW ?zcW ?zmW ?zxW ?zkM ?zbM ?ztM ?zaM ?zqM ?zhM ?zcM ?zmM ?zxM ?zkP ?zbP ?ztP ?zaP ?zqP ?zhP ?zcP ?zmP ?zxP ?zkR ?zbR ?ztR ?zaR ?zqR ?zhR ?zcR ?zmR ?ziR ?zoR ?zsR ?zIR ?zFR ?lIR ?cIR ?kIR ?zkL ?zbL ?ztL ?zaL ?zqL ?zhL ?zcL ?zmL ?zxL ?zkO ?zbO ?ztO ?zaO ?zqO ?zhO ?zcO ?zmO ?zxO ?zkE ?zbE ?ztE ?zaE ?zqE ?zhE ?zcE ?zmE ?ziE ?zoE ?zsE ?zIE ?zFE ?lIE ?cIE ?kIE ?zkN ?zbN ?ztN ?zaN ?zqN ?zhN ?zcN ?zmN ?ziN ?zoN ?zsN ?zIN ?zFN ?lIN ?cIN ?kIN ?zkU ?zbU ?ztU ?zaU ?zqU ?zhU ?zcU ?zmU ?ziU ?zoU ?zsU ?zIU ?zFU ?lIU ?cIU ?kIU ?zkT ?zbT ?ztT ?zaT ?zqT ?zhT ?zcT ?zmT ?ziT ?zoT ?zsT ?zIT ?zFT ?lIT ?cIT ?kIT ?zkB ?zbB ?ztB ?zaB ?zqB ?zhB ?zcB ?zmB ?ziB ?zoB ?zsB ?zIB ?zFB ?lIB ?cIB ?kIB ?zkD ?zbD ?ztD ?zaD ?zqD ?zhD ?zcD ?zmD ?ziD ?zoD ?zsD ?zID ?zFD ?lID ?cID ?kID ?yfN ?yiN ?ylN ?ycN ?ykN ?yfU ?yiU ?ylU ?ycU ?ykU ?qk1 ?qe1 ?qk2 ?qe2 ?qk3 ?qe3 ?qk4 ?qe4 ?qk5 ?qe5 ?qk6 ?qe6 ?qk7 ?qe7 ?qk8 ?qe8 ?qk9 ?qe9 ?qk10 ?qe10 ?qk11 ?qe11 ?qk12 ?qe12 ?neUN
    (case a0 => k_is)
    (case l0 => k_is)
    (case c0 => k_is)
    (case k0 => k_is)
    (case a1 => k_is)
    (case l1 => k_is)
    (case c1 => k_is)
    (case k1 => k_is)
    (case a2 => k_is)
    (case l2 => k_is)
    (case c2 => k_is)
    (case k2 => k_is)
    (case a3 => k_is)
    (case l3 => k_is)
    (case c3 => k_is)
    (case k3 => k_is)
    (case a4 => k_is)
    (case l4 => k_is)
    (case c4 => k_is)
    (case k4 => k_is)
    (case a5 => k_is)
    (case l5 => k_is)
    (case c5 => k_is)
    (case k5 => k_is)
    (case a6 => k_is)
    (case l6 => k_is)
    (case c6 => k_is)
    (case k6 => k_is)
    (case a7 => k_is)
    (case l7 => k_is)
    (case c7 => k_is)
    (case k7 => k_is)
    (case a8 => k_is)
    (case l8 => k_is)
    (case c8 => k_is)
    (case k8 => k_is)
    (case a9 => k_is)
    (case l9 => k_is)
    (case c9 => k_is)
    (case k9 => k_is)
    (case a10 => k_is)
    (case l10 => k_is)
    (case c10 => k_is)
    (case k10 => k_is)
    (case a11 => k_is)
    (case l11 => k_is)
    (case c11 => k_is)
    (case k11 => k_is)
    (case a12 => k_is)
    (case l12 => k_is)
    (case c12 => k_is)
    (case k12 => k_is)
    (case a13 => k_is)
    (case l13 => k_is)
    (case c13 => k_is)
    (case k13 => k_is)
    (case b_ArithmeticError => k_is)
    (case b_IndexError => k_is)
    (case b_KeyError => k_is)
    (case b_LookupError => k_is)
    (case b_OverflowError => k_is)
    (case b_ValueError => k_is)
    (case b_ZeroDivisionError => k_is)
    (case b_abs => k_is)
    (case b_int => k_is)
    (case b_isinstance => k_is)
    (case b_len => k_is)
    (case b_max => k_is)
    (case b_min => k_is)
    (case b_range => k_is)
    (case b_repr => k_is)
    (case b_str => k_is)
    (case zgF => k_is)
    (case zgW => k_is)
    (case zgM => k_is)
    (case zgP => k_is)
    (case zgR => k_is)
    (case zgL => k_is)
    (case zgO => k_is)
    (case zgE => k_is)
    (case zgN => k_is)
    (case zgU => k_is)
    (case zgT => k_is)
    (case zgB => k_is)
    (case zgD => k_is)
    (case zzn => k_is)
    (case zzt => k_is)
    (case zkW => k_is)
    (case zbW => k_is)
    (case ztW => k_is)
    (case zaW => k_is)
    (case zqW => k_is)
    (case zhW => k_is)
    (case zcW => k_is)
    (case zmW => k_is)
    (case zxW => k_exc)
    (case zkM => k_is)
    (case zbM => k_is)
    (case ztM => k_is)
    (case zaM => k_is)
    (case zqM => k_is)
    (case zhM => k_is)
    (case zcM => k_is)
    (case zmM => k_is)
    (case zxM => k_exc)
    (case zkP => k_is)
    (case zbP => k_is)
    (case ztP => k_is)
    (case zaP => k_is)
    (case zqP => k_is)
    (case zhP => k_is)
    (case zcP => k_is)
    (case zmP => k_is)
    (case zxP => k_exc)
    (case zkR => k_is)
    (case zbR => k_is)
    (case ztR => k_is)
    (case zaR => k_is)
    (case zqR => k_is)
    (case zhR => k_is)
    (case zcR => k_is)
    (case zmR => k_is)
    (case ziR => first | kernel_rfl | rfl)
    (case zoR => k_is)
    (case zsR => k_is)
    (case zIR => k_is)
    (case zFR => k_is)
    (case lIR => k_is)
    (case cIR => k_is)
    (case kIR => k_is)
    (case zkL => k_is)
    (case zbL => k_is)
    (case ztL => k_is)
    (case zaL => k_is)
    (case zqL => k_is)
    (case zhL => k_is)
    (case zcL => k_is)
    (case zmL => k_is)
    (case zxL => k_exc)
    (case zkO => k_is)
    (case zbO => k_is)
    (case ztO => k_is)
    (case zaO => k_is)
    (case zqO => k_is)
    (case zhO => k_is)
    (case zcO => k_is)
    (case zmO => k_is)
    (case zxO => k_exc)
    (case zkE => k_is)
    (case zbE => k_is)
    (case ztE => k_is)
    (case zaE => k_is)
    (case zqE => k_is)
    (case zhE => k_is)
    (case zcE => k_is)
    (case zmE => k_is)
    (case ziE => first | kernel_rfl | rfl)
    (case zoE => k_is)
    (case zsE => k_is)
    (case zIE => k_is)
    (case zFE => k_is)
    (case lIE => k_is)
    (case cIE => k_is)
    (case kIE => k_is)
    (case zkN => k_is)
    (case zbN => k_is)
    (case ztN => k_is)
    (case zaN => k_is)
    (case zqN => k_is)
    (case zhN => k_is)
    (case zcN => k_is)
    (case zmN => k_is)
    (case ziN => first | kernel_rfl | rfl)
    (case zoN => k_is)
    (case zsN => k_is)
    (case zIN => k_is)
    (case zFN => k_is)
    (case lIN => k_is)
    (case cIN => k_is)
    (case kIN => k_is)
    (case zkU => k_is)
    (case zbU => k_is)
    (case ztU => k_is)
    (case zaU => k_is)
    (case zqU => k_is)
    (case zhU => k_is)
    (case zcU => k_is)
    (case zmU => k_is)
    (case ziU => first | kernel_rfl | rfl)
    (case zoU => k_is)
    (case zsU => k_is)
    (case zIU => k_is)
    (case zFU => k_is)
    (case lIU => k_is)
    (case cIU => k_is)
    (case kIU => k_is)
    (case zkT => k_is)
    (case zbT => k_is)
    (case ztT => k_is)
    (case zaT => k_is)
    (case zqT => k_is)
    (case zhT => k_is)
    (case zcT => k_is)
    (case zmT => k_is)
    (case ziT => first | kernel_rfl | rfl)
    (case zoT => k_is)
    (case zsT => k_is)
    (case zIT => k_is)
    (case zFT => k_is)
    (case lIT => k_is)
    (case cIT => k_is)
    (case kIT => k_is)
    (case zkB => k_is)
    (case zbB => k_is)
    (case ztB => k_is)
    (case zaB => k_is)
    (case zqB => k_is)
    (case zhB => k_is)
    (case zcB => k_is)
    (case zmB => k_is)
    (case ziB => first | kernel_rfl | rfl)
    (case zoB => k_is)
    (case zsB => k_is)
    (case zIB => k_is)
    (case zFB => k_is)
    (case lIB => k_is)
    (case cIB => k_is)
    (case kIB => k_is)
    (case zkD => k_is)
    (case zbD => k_is)
    (case ztD => k_is)
    (case zaD => k_is)
    (case zqD => k_is)
    (case zhD => k_is)
    (case zcD => k_is)
    (case zmD => k_is)
    (case ziD => first | kernel_rfl | rfl)
    (case zoD => k_is)
    (case zsD => k_is)
    (case zID => k_is)
    (case zFD => k_is)
    (case lID => k_is)
    (case cID => k_is)
    (case kID => k_is)
    (case yfN => k_is)
    (case yiN => k_is)
    (case ylN => k_is)
    (case ycN => k_is)
    (case ykN => k_is)
    (case yfU => k_is)
    (case yiU => k_is)
    (case ylU => k_is)
    (case ycU => k_is)
    (case ykU => k_is)
    (case qk1 => exact ⟨by first | k_is | rfl, by first | k_is | rfl, by first | k_is | rfl, by first | k_is | rfl, by first | k_is | rfl, by first | k_is | rfl, by first | k_is | rfl, by first | k_is | rfl, by first | k_is | rfl, by first | k_is | rfl, by first | k_is | rfl, by first | k_is | rfl, by first | k_is | rfl, by first | k_is | rfl, by first | k_is | rfl, by first | k_is | rfl, by first | k_is | rfl, by first | k_is | rfl, by first | k_is | rfl, by first | k_is | rfl⟩)
    (case qe1 => exact ⟨by first | k_is | rfl, by first | k_is | rfl, by first | k_is | rfl, by first | k_is | rfl, by first | k_is | rfl, by first | k_is | rfl, by first | k_is | rfl, by first | k_is | rfl, by first | k_is | rfl, by first | k_is | rfl, by first | k_is | rfl, by first | k_is | rfl, by first | k_is | rfl⟩)
    (case qk2 => exact ⟨by first | k_is | rfl, by first | k_is | rfl, by first | k_is | rfl, by first | k_is | rfl, by first | k_is | rfl, by first | k_is | rfl, by first | k_is | rfl, by first | k_is | rfl, by first | k_is | rfl, by first | k_is | rfl, by first | k_is | rfl, by first | k_is | rfl, by first | k_is | rfl, by first | k_is | rfl, by first | k_is | rfl, by first | k_is | rfl, by first | k_is | rfl, by first | k_is | rfl, by first | k_is | rfl, by first | k_is | rfl⟩)
    (case qe2 => exact ⟨by first | k_is | rfl, by first | k_is | rfl, by first | k_is | rfl, by first | k_is | rfl, by first | k_is | rfl, by first | k_is | rfl, by first | k_is | rfl, by first | k_is | rfl, by first | k_is | rfl, by first | k_is | rfl, by first | k_is | rfl, by first | k_is | rfl, by first | k_is | rfl⟩)
    (case qk3 => exact ⟨by first | k_is | rfl, by first | k_is | rfl, by first | k_is | rfl, by first | k_is | rfl, by first | k_is | rfl, by first | k_is | rfl, by first | k_is | rfl, by first | k_is | rfl, by first | k_is | rfl, by first | k_is | rfl, by first | k_is | rfl, by first | k_is | rfl, by first | k_is | rfl, by first | k_is | rfl, by first | k_is | rfl, by first | k_is | rfl, by first | k_is | rfl, by first | k_is | rfl, by first | k_is | rfl, by first | k_is | rfl⟩)
    (case qe3 => exact ⟨by first | k_is | rfl, by first | k_is | rfl, by first | k_is | rfl, by first | k_is | rfl, by first | k_is | rfl, by first | k_is | rfl, by first | k_is | rfl, by first | k_is | rfl, by first | k_is | rfl, by first | k_is | rfl, by first | k_is | rfl, by first | k_is | rfl, by first | k_is | rfl⟩)
    (case qk4 => exact ⟨by first | k_is | rfl, by first | k_is | rfl, by first | k_is | rfl, by first | k_is | rfl, by first | k_is | rfl, by first | k_is | rfl, by first | k_is | rfl, by first | k_is | rfl, by first | k_is | rfl, by first | k_is | rfl, by first | k_is | rfl, by first | k_is | rfl, by first | k_is | rfl, by first | k_is | rfl, by first | k_is | rfl, by first | k_is | rfl, by first | k_is | rfl, by first | k_is | rfl, by first | k_is | rfl, by first | k_is | rfl⟩)
    (case qe4 => exact ⟨by first | k_is | rfl, by first | k_is | rfl, by first | k_is | rfl, by first | k_is | rfl, by first | k_is | rfl, by first | k_is | rfl, by first | k_is | rfl, by first | k_is | rfl, by first | k_is | rfl, by first | k_is | rfl, by first | k_is | rfl, by first | k_is | rfl, by first | k_is | rfl⟩)
    (case qk5 => exact ⟨by first | k_is | rfl, by first | k_is | rfl, by first | k_is | rfl, by first | k_is | rfl, by first | k_is | rfl, by first | k_is | rfl, by first | k_is | rfl, by first | k_is | rfl, by first | k_is | rfl, by first | k_is | rfl, by first | k_is | rfl, by first | k_is | rfl, by first | k_is | rfl, by first | k_is | rfl, by first | k_is | rfl, by first | k_is | rfl, by first | k_is | rfl, by first | k_is | rfl, by first | k_is | rfl, by first | k_is | rfl⟩)
    (case qe5 => exact ⟨by first | k_is | rfl, by first | k_is | rfl, by first | k_is | rfl, by first | k_is | rfl, by first | k_is | rfl, by first | k_is | rfl, by first | k_is | rfl, by first | k_is | rfl, by first | k_is | rfl, by first | k_is | rfl, by first | k_is | rfl, by first | k_is | rfl, by first | k_is | rfl⟩)
    (case qk6 => exact ⟨by first | k_is | rfl, by first | k_is | rfl, by first | k_is | rfl, by first | k_is | rfl, by first | k_is | rfl, by first | k_is | rfl, by first | k_is | rfl, by first | k_is | rfl, by first | k_is | rfl, by first | k_is | rfl, by first | k_is | rfl, by first | k_is | rfl, by first | k_is | rfl, by first | k_is | rfl, by first | k_is | rfl, by first | k_is | rfl, by first | k_is | rfl, by first | k_is | rfl, by first | k_is | rfl, by first | k_is | rfl⟩)
    (case qe6 => exact ⟨by first | k_is | rfl, by first | k_is | rfl, by first | k_is | rfl, by first | k_is | rfl, by first | k_is | rfl, by first | k_is | rfl, by first | k_is | rfl, by first | k_is | rfl, by first | k_is | rfl, by first | k_is | rfl, by first | k_is | rfl, by first | k_is | rfl, by first | k_is | rfl⟩)
    (case qk7 => exact ⟨by first | k_is | rfl, by first | k_is | rfl, by first | k_is | rfl, by first | k_is | rfl, by first | k_is | rfl, by first | k_is | rfl, by first | k_is | rfl, by first | k_is | rfl, by first | k_is | rfl, by first | k_is | rfl, by first | k_is | rfl, by first | k_is | rfl, by first | k_is | rfl, by first | k_is | rfl, by first | k_is | rfl, by first | k_is | rfl, by first | k_is | rfl, by first | k_is | rfl, by first | k_is | rfl, by first | k_is | rfl⟩)
    (case qe7 => exact ⟨by first | k_is | rfl, by first | k_is | rfl, by first | k_is | rfl, by first | k_is | rfl, by first | k_is | rfl, by first | k_is | rfl, by first | k_is | rfl, by first | k_is | rfl, by first | k_is | rfl, by first | k_is | rfl, by first | k_is | rfl, by first | k_is | rfl, by first | k_is | rfl⟩)
    (case qk8 => exact ⟨by first | k_is | rfl, by first | k_is | rfl, by first | k_is | rfl, by first | k_is | rfl, by first | k_is | rfl, by first | k_is | rfl, by first | k_is | rfl, by first | k_is | rfl, by first | k_is | rfl, by first | k_is | rfl, by first | k_is | rfl, by first | k_is | rfl, by first | k_is | rfl, by first | k_is | rfl, by first | k_is | rfl, by first | k_is | rfl, by first | k_is | rfl, by first | k_is | rfl, by first | k_is | rfl, by first | k_is | rfl⟩)
    (case qe8 => exact ⟨by first | k_is | rfl, by first | k_is | rfl, by first | k_is | rfl, by first | k_is | rfl, by first | k_is | rfl, by first | k_is | rfl, by first | k_is | rfl, by first | k_is | rfl, by first | k_is | rfl, by first | k_is | rfl, by first | k_is | rfl, by first | k_is | rfl, by first | k_is | rfl⟩)
    (case qk9 => exact ⟨by first | k_is | rfl, by first | k_is | rfl, by first | k_is | rfl, by first | k_is | rfl, by first | k_is | rfl, by first | k_is | rfl, by first | k_is | rfl, by first | k_is | rfl, by first | k_is | rfl, by first | k_is | rfl, by first | k_is | rfl, by first | k_is | rfl, by first | k_is | rfl, by first | k_is | rfl, by first | k_is | rfl, by first | k_is | rfl, by first | k_is | rfl, by first | k_is | rfl, by first | k_is | rfl, by first | k_is | rfl⟩)
    (case qe9 => exact ⟨by first | k_is | rfl, by first | k_is | rfl, by first | k_is | rfl, by first | k_is | rfl, by first | k_is | rfl, by first | k_is | rfl, by first | k_is | rfl, by first | k_is | rfl, by first | k_is | rfl, by first | k_is | rfl, by first | k_is | rfl, by first | k_is | rfl, by first | k_is | rfl⟩)
    (case qk10 => exact ⟨by first | k_is | rfl, by first | k_is | rfl, by first | k_is | rfl, by first | k_is | rfl, by first | k_is | rfl, by first | k_is | rfl, by first | k_is | rfl, by first | k_is | rfl, by first | k_is | rfl, by first | k_is | rfl, by first | k_is | rfl, by first | k_is | rfl, by first | k_is | rfl, by first | k_is | rfl, by first | k_is | rfl, by first | k_is | rfl, by first | k_is | rfl, by first | k_is | rfl, by first | k_is | rfl, by first | k_is | rfl⟩)
    (case qe10 => exact ⟨by first | k_is | rfl, by first | k_is | rfl, by first | k_is | rfl, by first | k_is | rfl, by first | k_is | rfl, by first | k_is | rfl, by first | k_is | rfl, by first | k_is | rfl, by first | k_is | rfl, by first | k_is | rfl, by first | k_is | rfl, by first | k_is | rfl, by first | k_is | rfl⟩)
    (case qk11 => exact ⟨by first | k_is | rfl, by first | k_is | rfl, by first | k_is | rfl, by first | k_is | rfl, by first | k_is | rfl, by first | k_is | rfl, by first | k_is | rfl, by first | k_is | rfl, by first | k_is | rfl, by first | k_is | rfl, by first | k_is | rfl, by first | k_is | rfl, by first | k_is | rfl, by first | k_is | rfl, by first | k_is | rfl, by first | k_is | rfl, by first | k_is | rfl, by first | k_is | rfl, by first | k_is | rfl, by first | k_is | rfl⟩)
    (case qe11 => exact ⟨by first | k_is | rfl, by first | k_is | rfl, by first | k_is | rfl, by first | k_is | rfl, by first | k_is | rfl, by first | k_is | rfl, by first | k_is | rfl, by first | k_is | rfl, by first | k_is | rfl, by first | k_is | rfl, by first | k_is | rfl, by first | k_is | rfl, by first | k_is | rfl⟩)
    (case qk12 => exact ⟨by first | k_is | rfl, by first | k_is | rfl, by first | k_is | rfl, by first | k_is | rfl, by first | k_is | rfl, by first | k_is | rfl, by first | k_is | rfl, by first | k_is | rfl, by first | k_is | rfl, by first | k_is | rfl, by first | k_is | rfl, by first | k_is | rfl, by first | k_is | rfl, by first | k_is | rfl, by first | k_is | rfl, by first | k_is | rfl, by first | k_is | rfl, by first | k_is | rfl, by first | k_is | rfl, by first | k_is | rfl⟩)
    (case qe12 => exact ⟨by first | k_is | rfl, by first | k_is | rfl, by first | k_is | rfl, by first | k_is | rfl, by first | k_is | rfl, by first | k_is | rfl, by first | k_is | rfl, by first | k_is | rfl, by first | k_is | rfl, by first | k_is | rfl, by first | k_is | rfl, by first | k_is | rfl, by first | k_is | rfl⟩)
    (case neUN => decide)
#print axioms PySem.Challenge.cw_fallsback_k01_whole_errors_of_the_packag_holds
