import PyProof.Rows.All
import Wide.All
import OpenK.AllK
import Wide.FinOn
import HandS.ForMost
import HandS.CallLocal
import HandS.ClsMeth
import HandS.Deep
import HandS.DictComp
import HandS.Flow
import HandS.IsInst
import HandS.Property
import HandS.Star
import HandS.StrMore
import HandS.Style
import HandS.Text
import HandS.TryOnly
import HandS.TupAny
import HandS.Walk
import HandS.Wide
import HandS.WordsExc
import KE.KDictList
import KE.KStrOpen
import PyProof.EqAt
import PySem.Challenge.RW_fallsback_k05_whole_forms_of_moves
set_option Elab.async false
set_option maxRecDepth 100000
set_option maxHeartbeats 4400000
/-! Den: what a piece of the text denotes as a plain Lean function over data. -/
namespace Den
open PySem PySem.Spec PyProof.Rows L2

/-! ### data -/
inductive D where
  | non | bl (b : Bool) | int (i : Int) | str (s : Str) | ty (n : String) | fn (a : Addr)
  | lst (xs : List D) | tup (xs : List D) | scr (xs : List D) | dct (ks : List L2.Key) (xs : List D) | loc (n : Nat) | ins (C : Addr) (ks : List Str) (xs : List D)
/-- the lists that may still change; none: one that is now data -/
abbrev Mem := List (Option (List D))
abbrev Ro := List (Option D)
abbrev Kf := PySem.W.Frag

mutual
inductive Rep (K : Kf) (μ : List Addr) (H : Hp) : V → D → Prop
  | non : Rep K μ H .non .non
  | bl (b : Bool) : Rep K μ H (.bl b) (.bl b)
  | int (i : Int) : Rep K μ H (.int i) (.int i)
  | str (x : Str) : Rep K μ H (.str x) (.str x)
  | ty (n : String) : Rep K μ H (.ty n) (.ty n)
  | fn (a : Addr) : Rep K μ H (.ref a) (.fn a)
  | lst {a : Addr} {vs : List V} {ds : List D} : H a = some (.lst vs) → RepAll K μ H vs ds → Rep K μ H (.ref a) (.lst ds)
  | scr {a : Addr} {vs : List V} {ds : List D} : SqL K H a vs → RepAll K μ H vs ds → Rep K μ H (.ref a) (.scr ds)
  | dct {a : Addr} {kvs : List (L2.Key × V)} {ks : List L2.Key} {ds : List D} : H a = some (.dK kvs) → kvs.map Prod.fst = ks → RepAll K μ H (kvs.map Prod.snd) ds → Rep K μ H (.ref a) (.dct ks ds)
  | tup {a : Addr} {vs : List V} {ds : List D} : SqT K H a vs → RepAll K μ H vs ds → Rep K μ H (.ref a) (.tup ds)
  | loc {a : Addr} {n : Nat} : μ[n]? = some a → Rep K μ H (.ref a) (.loc n)
  | ins {a C dx : Addr} {fv : List (Str × V)} {ks : List Str} {ds : List D} : H a = some (.ins C dx fv) → fv.map Prod.fst = ks → RepAll K μ H (fv.map Prod.snd) ds → Rep K μ H (.ref a) (.ins C ks ds)
inductive RepAll (K : Kf) (μ : List Addr) (H : Hp) : List V → List D → Prop
  | nil : RepAll K μ H [] []
  | cons {v : V} {vs : List V} {d : D} {ds : List D} : Rep K μ H v d → RepAll K μ H vs ds → RepAll K μ H (v :: vs) (d :: ds)
end

theorem same_rd {H H' : Hp} {a : Addr} {u : HO} (e : Same H H') (h : Rd H a u) : Rd H' a u :=
  h.elim (fun q => .inl (e _ _ q)) fun ⟨o, q⟩ => .inr ⟨o, e _ _ q⟩
theorem same_l {K : Kf} {H H' : Hp} {a : Addr} {xs : List V} (e : Same H H') (h : SqL K H a xs) : SqL K H' a xs :=
  h.elim (fun q => .inl (same_rd e q)) fun q => .inr q
theorem same_t {K : Kf} {H H' : Hp} {a : Addr} {xs : List V} (e : Same H H') (h : SqT K H a xs) : SqT K H' a xs :=
  h.elim (fun q => .inl (same_rd e q)) fun q => .inr q
theorem pre_at {μ μ' : List Addr} (m : μ <+: μ') {n : Nat} {a : Addr} (h : μ[n]? = some a) : μ'[n]? = some a := by
  obtain ⟨t, rfl⟩ := m
  have hn := (List.getElem?_eq_some_iff.mp h).1
  rw [List.getElem?_append_left hn]
  exact h

mutual
theorem Rep.mono {K : Kf} {μ μ' : List Addr} {H H' : Hp} (e : Same H H') (m : μ <+: μ') : ∀ (d : D) (v : V), Rep K μ H v d → Rep K μ' H' v d
  | .non, _, h => by cases h; exact .non
  | .bl _, _, h => by cases h; exact .bl _
  | .int _, _, h => by cases h; exact .int _
  | .str _, _, h => by cases h; exact .str _
  | .ty _, _, h => by cases h; exact .ty _
  | .fn _, _, h => by cases h; exact .fn _
  | .lst ds, _, h => by
    cases h with
    | lst s r => exact .lst (e _ _ s) (RepAll.mono e m ds _ r)
  | .scr ds, _, h => by
    cases h with
    | scr s r => exact .scr (same_l e s) (RepAll.mono e m ds _ r)
  | .dct ks ds, _, h => by
    cases h with
    | dct s k r => exact .dct (e _ _ s) k (RepAll.mono e m ds _ r)
  | .tup ds, _, h => by
    cases h with
    | tup s r => exact .tup (same_t e s) (RepAll.mono e m ds _ r)
  | .loc n, _, h => by
    cases h with
    | loc q => exact .loc (pre_at m q)
  | .ins C ks ds, _, h => by
    cases h with
    | ins s k r => exact .ins (e _ _ s) k (RepAll.mono e m ds _ r)
theorem RepAll.mono {K : Kf} {μ μ' : List Addr} {H H' : Hp} (e : Same H H') (m : μ <+: μ') : ∀ (ds : List D) (vs : List V), RepAll K μ H vs ds → RepAll K μ' H' vs ds
  | [], _, h => by cases h; exact .nil
  | d :: ds, _, h => by
    cases h with
    | cons r t => exact .cons (Rep.mono e m d _ r) (RepAll.mono e m ds _ t)
end
section
variable {K : Kf} {μ : List Addr} {H : Hp}
theorem RepAll.length : ∀ {vs : List V} {ds : List D}, RepAll K μ H vs ds → vs.length = ds.length
  | _, _, .nil => rfl
  | _, _, .cons _ t => congrArg Nat.succ t.length
theorem RepAll.at : ∀ {vs : List V} {ds : List D} {i : Nat} {d : D}, RepAll K μ H vs ds → ds[i]? = some d → ∃ v, vs[i]? = some v ∧ Rep K μ H v d
  | _, _, _, _, .nil, e => by simp at e
  | _, _, 0, _, .cons r _, e => ⟨_, rfl, by simp at e; subst e; exact r⟩
  | _, _, i + 1, _, .cons _ t, e => by
    obtain ⟨v, h1, h2⟩ := RepAll.at (i := i) t (by simpa using e)
    exact ⟨v, by simpa using h1, h2⟩
theorem RepAll.atV : ∀ {vs : List V} {ds : List D} {i : Nat} {v : V}, RepAll K μ H vs ds → vs[i]? = some v → ∃ d, ds[i]? = some d ∧ Rep K μ H v d
  | _, _, _, _, .nil, e => by simp at e
  | _, _, 0, _, .cons r _, e => ⟨_, rfl, by simp at e; subst e; exact r⟩
  | _, _, i + 1, _, .cons _ t, e => by
    obtain ⟨v, h1, h2⟩ := RepAll.atV (i := i) t (by simpa using e)
    exact ⟨v, by simpa using h1, h2⟩
theorem RepAll.app : ∀ {vs ws : List V} {ds es : List D}, RepAll K μ H vs ds → RepAll K μ H ws es → RepAll K μ H (vs ++ ws) (ds ++ es)
  | _, _, _, _, .nil, s => s
  | _, _, _, _, .cons r t, s => .cons r (t.app s)
theorem RepAll.take : ∀ {vs : List V} {ds : List D} (n : Nat), RepAll K μ H vs ds → RepAll K μ H (vs.take n) (ds.take n)
  | _, _, 0, _ => .nil
  | _, _, _ + 1, .nil => .nil
  | _, _, n + 1, .cons r t => .cons r (t.take n)
theorem RepAll.drop : ∀ {vs : List V} {ds : List D} (n : Nat), RepAll K μ H vs ds → RepAll K μ H (vs.drop n) (ds.drop n)
  | _, _, 0, r => r
  | _, _, _ + 1, .nil => .nil
  | _, _, n + 1, .cons _ t => t.drop n
theorem RepAll.set : ∀ {vs : List V} {ds : List D} {v : V} {d : D} (i : Nat), RepAll K μ H vs ds → Rep K μ H v d → RepAll K μ H (vs.set i v) (ds.set i d)
  | _, _, _, _, _, .nil, _ => .nil
  | _, _, _, _, 0, .cons _ t, q => .cons q t
  | _, _, _, _, i + 1, .cons r t, q => .cons r (t.set i q)
theorem RepAll.erase : ∀ {vs : List V} {ds : List D} (i : Nat), RepAll K μ H vs ds → RepAll K μ H (vs.eraseIdx i) (ds.eraseIdx i)
  | _, _, _, .nil => .nil
  | _, _, 0, .cons _ t => t
  | _, _, i + 1, .cons r t => .cons r (t.erase i)
theorem RepAll.rev {vs : List V} {ds : List D} (h : RepAll K μ H vs ds) : RepAll K μ H vs.reverse ds.reverse := by
  induction vs generalizing ds with
  | nil => cases h; exact .nil
  | cons v vs ih =>
    cases h with
    | cons r t =>
      rw [List.reverse_cons, List.reverse_cons]
      exact (ih t).app (.cons r .nil)
theorem RepAll.ints : ∀ {vs : List V} {ns : List Int}, RepAll K μ H vs (ns.map D.int) → vs = ns.map V.int
  | _, [], h => by cases h; rfl
  | _, n :: ns, h => by
    cases h with
    | cons r t => cases r; rw [List.map_cons, ← RepAll.ints t]
theorem RepAll.strs : ∀ {vs : List V} {ns : List Str}, RepAll K μ H vs (ns.map D.str) → vs = ns.map V.str
  | _, [], h => by cases h; rfl
  | _, n :: ns, h => by
    cases h with
    | cons r t => cases r; rw [List.map_cons, ← RepAll.strs t]
theorem RepAll.bls : ∀ {vs : List V} {ns : List Bool}, RepAll K μ H vs (ns.map D.bl) → vs = ns.map V.bl
  | _, [], h => by cases h; rfl
  | _, n :: ns, h => by
    cases h with
    | cons r t => cases r; rw [List.map_cons, ← RepAll.bls t]
end

/-! ### states -/
structure SR (K : Kf) (μ : List Addr) (Hf Fr H : Hp) (M : Mem) : Prop where
  ex : Same Hf H
  fr : Same Fr H
  dis : ∀ a o, Fr a = some o → Hf a = none
  len : μ.length = M.length
  nd : μ.Nodup
  cell : ∀ (n : Nat) (ds : List D), M[n]? = some (some ds) → ∃ a vs, μ[n]? = some a ∧ Hf a = none ∧ Fr a = none ∧ H a = some (.lst vs) ∧ RepAll K μ Hf vs ds
  old : ∀ a, a ∈ μ → ∃ o, H a = some o
structure ERep (K : Kf) (μ : List Addr) (H : Hp) (σ : L2.St) (ρ : Ro) : Prop where
  len : σ.length = ρ.length
  slot : ∀ (i : Nat) (d : D), ρ[i]? = some (some d) → ∃ v, σ[i]? = some (some v) ∧ Rep K μ H v d
section
variable {K : Kf} {μ μ' : List Addr} {H H' Hf Hf' Fr : Hp} {σ : L2.St} {ρ : Ro} {M : Mem}
theorem ERep.mono (r : ERep K μ H σ ρ) (e : Same H H') (m : μ <+: μ') : ERep K μ' H' σ ρ :=
  ⟨r.len, fun i d q => let ⟨v, h1, h2⟩ := r.slot i d q; ⟨v, h1, h2.mono e m⟩⟩
theorem ERep.put (r : ERep K μ H σ ρ) {v : V} {d : D} (i : Nat) (q : Rep K μ H v d) : ERep K μ H (σ.set i (some v)) (ρ.set i (some d)) := by
  refine ⟨by rw [List.length_set, List.length_set]; exact r.len, fun j d' e => ?_⟩
  by_cases hj : i = j
  · subst hj
    have hi : i < ρ.length := by
      have := (List.getElem?_eq_some_iff.mp e).1
      rwa [List.length_set] at this
    rw [List.getElem?_set_self hi] at e
    cases e
    exact ⟨v, by rw [List.getElem?_set_self (by rw [r.len]; exact hi)], q⟩
  · rw [List.getElem?_set_ne hj] at e
    obtain ⟨w, h1, h2⟩ := r.slot j d' e
    exact ⟨w, by rw [List.getElem?_set_ne hj]; exact h1, h2⟩
def wipeD (ρ : Ro) : List Nat → Ro
  | [] => ρ
  | v :: vs => (wipeD ρ vs).set v none
theorem ERep.wipe (r : ERep K μ H σ ρ) : ∀ vs : List Nat, ERep K μ H (L2.wipe σ vs) (wipeD ρ vs)
  | [] => r
  | v :: vs => by
    have ih := r.wipe vs
    refine ⟨by show ((L2.wipe σ vs).set v none).length = ((wipeD ρ vs).set v none).length; rw [List.length_set, List.length_set]; exact ih.len, fun j d' e => ?_⟩
    have e : ((wipeD ρ vs).set v none)[j]? = some (some d') := e
    by_cases hj : v = j
    · subst hj
      by_cases hv : v < (wipeD ρ vs).length
      · rw [List.getElem?_set_self hv] at e; cases e
      · rw [List.getElem?_eq_none (by rw [List.length_set]; omega)] at e; cases e
    · rw [List.getElem?_set_ne hj] at e
      obtain ⟨w, h1, h2⟩ := ih.slot j d' e
      refine ⟨w, ?_, h2⟩
      show ((L2.wipe σ vs).set v none)[j]? = _
      rw [List.getElem?_set_ne hj]; exact h1
/-- a new object that becomes data -/
theorem SR.froz {p : Addr} {o : HO} (s : SR K μ Hf Fr H M) (hp : H p = none) : SR K μ (upd Hf p o) Fr (upd H p o) M ∧ Same Hf (upd Hf p o) := by
  have hf : Hf p = none := s.ex.free hp
  have hr : Fr p = none := s.fr.free hp
  have hs : Same Hf (upd Hf p o) := fun b u e => by rw [upd_ne (ne_of_none e hf)]; exact e
  refine ⟨⟨fun b u e => ?_, fun b u e => ?_, fun b u e => ?_, s.len, s.nd, fun n ds e => ?_, fun b hb => ?_⟩, hs⟩
  · by_cases hb : b = p
    · subst hb; rw [upd_same] at e ⊢; exact e
    · rw [upd_ne hb] at e ⊢; exact s.ex b u e
  · rw [upd_ne (ne_of_none e hr)]; exact s.fr b u e
  · rw [upd_ne (ne_of_none e hr)]; exact s.dis b u e
  · obtain ⟨a, vs, h1, h2, h3, h4, h5⟩ := s.cell n ds e
    have ha : a ≠ p := ne_of_none h4 hp
    exact ⟨a, vs, h1, by rw [upd_ne ha]; exact h2, h3, by rw [upd_ne ha]; exact h4, h5.mono hs (List.prefix_refl _)⟩
  · obtain ⟨u, q⟩ := s.old b hb
    exact ⟨u, by rw [upd_ne (ne_of_none q hp)]; exact q⟩
/-- a new list that may still change -/
theorem SR.grow {p : Addr} {vs : List V} {ds : List D} (s : SR K μ Hf Fr H M) (hp : H p = none) (r : RepAll K μ Hf vs ds) :
    SR K (μ ++ [p]) Hf Fr (upd H p (.lst vs)) (M ++ [some ds]) ∧ (μ ++ [p])[M.length]? = some p := by
  have hf : Hf p = none := s.ex.free hp
  have hr : Fr p = none := s.fr.free hp
  have hm : μ <+: μ ++ [p] := List.prefix_append _ _
  have hat : (μ ++ [p])[M.length]? = some p := by rw [← s.len]; simp
  have hnp : p ∉ μ := fun q => by
    obtain ⟨u, e⟩ := s.old p q
    rw [hp] at e; cases e
  refine ⟨⟨fun b u e => ?_, fun b u e => ?_, s.dis, by simp [s.len], ?_, fun n es e => ?_, fun b hb => ?_⟩, hat⟩
  · rw [upd_ne (ne_of_none e hf)]; exact s.ex b u e
  · rw [upd_ne (ne_of_none e hr)]; exact s.fr b u e
  · rw [List.nodup_append]
    exact ⟨s.nd, by simp, fun a ha b hb => by
      have : b = p := by simpa using hb
      subst this
      exact fun z => hnp (z ▸ ha)⟩
  · by_cases hn : n < M.length
    · rw [List.getElem?_append_left hn] at e
      obtain ⟨a, ws, h1, h2, h3, h4, h5⟩ := s.cell n es e
      exact ⟨a, ws, pre_at hm h1, h2, h3, by rw [upd_ne (ne_of_none h4 hp)]; exact h4, h5.mono (Same.refl _) hm⟩
    · have hn' : n = M.length := by
        have := (List.getElem?_eq_some_iff.mp e).1
        simp at this; omega
      subst hn'
      rw [List.getElem?_append_right (Nat.le_refl _)] at e
      simp at e
      subst e
      exact ⟨p, vs, hat, hf, hr, upd_same, r.mono (Same.refl _) hm⟩
  · rcases List.mem_append.mp hb with q | q
    · obtain ⟨u, e⟩ := s.old b q
      exact ⟨u, by rw [upd_ne (ne_of_none e hp)]; exact e⟩
    · have : b = p := by simpa using q
      subst this
      exact ⟨_, upd_same⟩
theorem nodup_at {l : List Addr} (h : l.Nodup) {i j : Nat} {a : Addr} (hi : l[i]? = some a) (hj : l[j]? = some a) : i = j :=
  nd_ix h hi hj
/-- a list that may change is changed -/
theorem SR.turn {n : Nat} {ds es : List D} {ws : List V} {a : Addr} (s : SR K μ Hf Fr H M) (hM : M[n]? = some (some ds)) (ha : μ[n]? = some a) (r : RepAll K μ Hf ws es) :
    SR K μ Hf Fr (upd H a (.lst ws)) (M.set n (some es)) := by
  obtain ⟨a', vs, h1, h2, h3, h4, h5⟩ := s.cell n ds hM
  rw [ha] at h1; cases h1
  have hn : n < M.length := (List.getElem?_eq_some_iff.mp hM).1
  refine ⟨fun b u e => ?_, fun b u e => ?_, s.dis, by simp [s.len], s.nd, fun k ks e => ?_, fun b hb => ?_⟩
  · rw [upd_ne (ne_of_none e h2)]; exact s.ex b u e
  · rw [upd_ne (ne_of_none e h3)]; exact s.fr b u e
  · by_cases hk : n = k
    · subst hk
      rw [List.getElem?_set_self hn] at e
      cases e
      exact ⟨a, ws, ha, h2, h3, upd_same, r⟩
    · rw [List.getElem?_set_ne hk] at e
      obtain ⟨b, us, g1, g2, g3, g4, g5⟩ := s.cell k ks e
      have hb : b ≠ a := fun z => hk (nodup_at s.nd ha (z ▸ g1))
      exact ⟨b, us, g1, g2, g3, by rw [upd_ne hb]; exact g4, g5⟩
  · by_cases hb' : b = a
    · subst hb'; exact ⟨_, upd_same⟩
    · obtain ⟨u, e⟩ := s.old b hb
      exact ⟨u, by rw [upd_ne hb']; exact e⟩
/-- a list that may change becomes data -/
theorem SR.seal {n : Nat} {ds : List D} {a : Addr} (s : SR K μ Hf Fr H M) (hM : M[n]? = some (some ds)) (ha : μ[n]? = some a) :
    ∃ Hf', Same Hf Hf' ∧ SR K μ Hf' Fr H (M.set n none) ∧ Rep K μ Hf' (.ref a) (.lst ds) := by
  obtain ⟨a', vs, h1, h2, h3, h4, h5⟩ := s.cell n ds hM
  rw [ha] at h1; cases h1
  have hs : Same Hf (upd Hf a (.lst vs)) := fun b u e => by rw [upd_ne (ne_of_none e h2)]; exact e
  have hn : n < M.length := (List.getElem?_eq_some_iff.mp hM).1
  refine ⟨upd Hf a (.lst vs), hs, ⟨fun b u e => ?_, s.fr, fun b u e => ?_, by simp [s.len], s.nd, fun k ks e => ?_, s.old⟩, .lst upd_same (h5.mono hs (List.prefix_refl _))⟩
  · by_cases hb : b = a
    · subst hb; rw [upd_same] at e; rw [← e]; exact h4
    · rw [upd_ne hb] at e; exact s.ex b u e
  · have : b ≠ a := ne_of_none e h3
    rw [upd_ne this]; exact s.dis b u e
  · by_cases hk : n = k
    · subst hk
      rw [List.getElem?_set_self hn] at e
      cases e
    · rw [List.getElem?_set_ne hk] at e
      obtain ⟨b, us, g1, g2, g3, g4, g5⟩ := s.cell k ks e
      have hb : b ≠ a := fun z => hk (nodup_at s.nd ha (z ▸ g1))
      exact ⟨b, us, g1, by rw [upd_ne hb]; exact g2, g3, g4, g5.mono hs (List.prefix_refl _)⟩
end

/-! ### outcomes -/
structure XD where
  cls : Value
  fs : Option (List (Str × D))
inductive Out (α : Type) where
  | ok (a : α) (M : Mem)
  | exc (x : XD) (M : Mem)
  | no
def Out.bind {α β : Type} (o : Out α) (f : α → Mem → Out β) : Out β := match o with
  | .ok a M => f a M
  | .exc x M => .exc x M
  | .no => .no
@[simp] theorem Out.bind_ok {α β : Type} (a : α) (M : Mem) (f : α → Mem → Out β) : (Out.ok a M).bind f = f a M := rfl
@[simp] theorem Out.bind_no {α β : Type} (f : α → Mem → Out β) : (Out.no : Out α).bind f = .no := rfl
@[simp] theorem Out.bind_exc {α β : Type} (x : XD) (M : Mem) (f : α → Mem → Out β) : (Out.exc x M : Out α).bind f = .exc x M := rfl
def Out.map {α β : Type} (o : Out α) (f : α → β) : Out β := o.bind fun a M => .ok (f a) M
def FRep (K : Kf) (μ : List Addr) (Hf : Hp) : List (Str × V) → List (Str × D) → Prop
  | [], [] => True
  | (f, v) :: vs, (g, d) :: ds => f = g ∧ Rep K μ Hf v d ∧ FRep K μ Hf vs ds
  | _, _ => False
def XRep (K : Kf) (μ : List Addr) (Hf H : Hp) (x : XD) (dx : Option Addr) : Prop := match x.fs with
  | none => dx = none
  | some fs => ∃ d fv, dx = some d ∧ H d = some (.xd fv) ∧ FRep K μ Hf fv fs
def Post {α : Type} (K : Kf) (E : XK) (o : Out α) (μ : List Addr) (Hf Fr : Hp) (k : α → List Addr → Hp → Hp → Mem → Prop) : Prop := match o with
  | .ok a M' => ∀ H' Hf' μ', Same Hf Hf' → μ <+: μ' → SR K μ' Hf' Fr H' M' → k a μ' Hf' H' M'
  | .exc x M' => ∀ dx H' Hf' μ', Same Hf Hf' → μ <+: μ' → SR K μ' Hf' Fr H' M' → XRep K μ' Hf' H' x dx → E x.cls dx H'
  | .no => False
section
variable {α β : Type} {K : Kf} {E : XK} {o : Out α} {μ μ1 : List Addr} {Hf Hf1 Fr : Hp} {k k' : α → List Addr → Hp → Hp → Mem → Prop}
theorem Post.later (h : Post K E o μ Hf Fr k) (e : Same Hf Hf1) (m : μ <+: μ1) : Post K E o μ1 Hf1 Fr k := by
  cases o with
  | ok a M => exact fun H' Hf' μ' e' m' s => h H' Hf' μ' (e.trans e') (m.trans m') s
  | exc x M => exact fun dx H' Hf' μ' e' m' s => h dx H' Hf' μ' (e.trans e') (m.trans m') s
  | no => exact h
theorem Post.weak (h : Post K E o μ Hf Fr k) (i : ∀ a μ' Hf' H' M', Same Hf Hf' → μ <+: μ' → SR K μ' Hf' Fr H' M' → k a μ' Hf' H' M' → k' a μ' Hf' H' M') : Post K E o μ Hf Fr k' := by
  cases o with
  | ok a M => exact fun H' Hf' μ' e m s => i a μ' Hf' H' M e m s (h H' Hf' μ' e m s)
  | exc x M => exact h
  | no => exact h
theorem Post.split {f : α → Mem → Out β} {k : β → List Addr → Hp → Hp → Mem → Prop} (h : Post K E (o.bind f) μ Hf Fr k) :
    Post K E o μ Hf Fr (fun a μ1 Hf1 _ M1 => Post K E (f a M1) μ1 Hf1 Fr k) := by
  cases o with
  | ok a M => exact fun H' Hf' μ' e m _ => Post.later (o := f a M) h e m
  | exc x M => exact h
  | no => exact h
end
/-- by values: what follows, by data -/
abbrev kD (K : Kf) (Q : VK) : D → List Addr → Hp → Hp → Mem → Prop := fun d μ' Hf' H' _ => ∀ v, Rep K μ' Hf' v d → Q v H'
abbrev kA (K : Kf) (Q : List V → Hp → Prop) : List D → List Addr → Hp → Hp → Mem → Prop := fun ds μ' Hf' H' _ => ∀ vs, RepAll K μ' Hf' vs ds → Q vs H'
abbrev kB (Q : Bool → Hp → Prop) : Bool → List Addr → Hp → Hp → Mem → Prop := fun b _ _ H' _ => Q b H'
inductive Fl where
  | nx (ρ : Ro) | rt (d : D) | bk (ρ : Ro) | ct (ρ : Ro)
def kS (K : Kf) (N : Ends) : Fl → List Addr → Hp → Hp → Mem → Prop := fun f μ' Hf' H' _ => match f with
  | .nx ρ => ∀ σ, ERep K μ' Hf' σ ρ → N.nx σ H'
  | .rt d => ∀ v, Rep K μ' Hf' v d → N.rt v H'
  | .bk ρ => ∀ σ, ERep K μ' Hf' σ ρ → N.bk σ H'
  | .ct ρ => ∀ σ, ERep K μ' Hf' σ ρ → N.ct σ H'
abbrev FE := Ro → Mem → Out D
abbrev FA := Ro → Mem → Out (List D)
abbrev FT := Ro → Mem → Out Bool
abbrev FS := Ro → Mem → Out Fl
def teF (K : Kf) (E : XK) (F : FE) : TE := fun σ H Q => ∃ μ Hf Fr ρ M, ERep K μ Hf σ ρ ∧ SR K μ Hf Fr H M ∧ Post K E (F ρ M) μ Hf Fr (kD K Q)
def taF (K : Kf) (E : XK) (F : FA) : TA := fun σ H Q => ∃ μ Hf Fr ρ M, ERep K μ Hf σ ρ ∧ SR K μ Hf Fr H M ∧ Post K E (F ρ M) μ Hf Fr (kA K Q)
def ttF (K : Kf) (E : XK) (F : FT) : TT := fun σ H Q => ∃ μ Hf Fr ρ M, ERep K μ Hf σ ρ ∧ SR K μ Hf Fr H M ∧ Post K E (F ρ M) μ Hf Fr (kB Q)
def tsF (K : Kf) (E : XK) (F : FS) : TS := fun N σ H => ∃ μ Hf Fr ρ M, ERep K μ Hf σ ρ ∧ SR K μ Hf Fr H M ∧ Post K E (F ρ M) μ Hf Fr (kS K N)
abbrev DE (X : Cx) (E : XK) (e : Expr) (F : FE) : Prop := PE X e (teF X.K E F)
abbrev DA (X : Cx) (E : XK) (es : List Expr) (F : FA) : Prop := PA X es (taF X.K E F)
abbrev DT (X : Cx) (E : XK) (e : Expr) (F : FT) : Prop := PT X e (ttF X.K E F)
abbrev DS (X : Cx) (E : XK) (st : Stmt) (F : FS) : Prop := PS X st (tsF X.K E F)
abbrev DSs (X : Cx) (E : XK) (st : List Stmt) (F : FS) : Prop := PSs X st (tsF X.K E F)
section
variable {X : Cx} {e : Expr} {es : List Expr} {st : Stmt} {sts : List Stmt}
theorem pe_imp {t t' : TE} (h : PE X e t) (i : ∀ σ H Q, t' σ H Q → t σ H Q) : PE X e t' := ⟨fun pins s σ H Q I q => h.run pins s σ H Q I (i σ H Q q)⟩
theorem pt_imp {t t' : TT} (h : PT X e t) (i : ∀ σ H Q, t' σ H Q → t σ H Q) : PT X e t' := ⟨fun pins s σ H Q I q => h.run pins s σ H Q I (i σ H Q q)⟩
theorem pa_imp {t t' : TA} (h : PA X es t) (i : ∀ σ H Q, t' σ H Q → t σ H Q) : PA X es t' := ⟨fun pos pins s σ H Q I q => h.run pos pins s σ H Q I (i σ H Q q)⟩
theorem ps_imp {t t' : TS} (h : PS X st t) (i : ∀ N σ H, t' N σ H → t N σ H) : PS X st t' := ⟨fun pins s σ H N I q => h.run pins s σ H N I (i N σ H q)⟩
theorem pss_imp {t t' : TS} (h : PSs X sts t) (i : ∀ N σ H, t' N σ H → t N σ H) : PSs X sts t' := ⟨fun pins s σ H N I q => h.run pins s σ H N I (i N σ H q)⟩
end
end Den
namespace Den
open PySem PySem.Spec PyProof.Rows L2

/-! ### operators by data -/
abbrev G2 := D → D → Mem → Out D
def rD2 (K : Kf) (E : XK) (g : G2) : R2 := fun x y H Q => ∃ μ Hf Fr M d1 d2, Rep K μ Hf x d1 ∧ Rep K μ Hf y d2 ∧ SR K μ Hf Fr H M ∧ Post K E (g d1 d2 M) μ Hf Fr (kD K Q)
@[simp] def eTwo (g : G2) (fa fb : FE) : FE := fun ρ M => (fa ρ M).bind fun x M1 => (fb ρ M1).bind fun y M2 => g x y M2
theorem two_go {K : Kf} {E : XK} {g : G2} {fa fb : FE} {σ : L2.St} {H : Hp} {Q : VK} (h : teF K E (eTwo g fa fb) σ H Q) : tOp (rD2 K E g) (teF K E fa) (teF K E fb) σ H Q := by
  obtain ⟨μ, Hf, Fr, ρ, M, r, s, p⟩ := h
  refine ⟨μ, Hf, Fr, ρ, M, r, s, p.split.weak fun x μ1 Hf1 H1 M1 e1 m1 s1 p1 v1 r1 => ?_⟩
  refine ⟨μ1, Hf1, Fr, ρ, M1, r.mono e1 m1, s1, p1.split.weak fun y μ2 Hf2 H2 M2 e2 m2 s2 p2 v2 r2 => ?_⟩
  exact ⟨μ2, Hf2, Fr, M2, x, y, Rep.mono e2 m2 _ _ r1, r2, s2, p2⟩
/-- what follows, at the state as it is -/
theorem Post.now {α : Type} {K : Kf} {E : XK} {a : α} {M : Mem} {μ : List Addr} {Hf Fr H : Hp} {k : α → List Addr → Hp → Hp → Mem → Prop} (p : Post K E (.ok a M) μ Hf Fr k) (s : SR K μ Hf Fr H M) : k a μ Hf H M :=
  p H Hf μ (Same.refl _) (List.prefix_refl _) s
/-- a new object handed out as data -/
theorem Post.new {K : Kf} {E : XK} {d : D} {M : Mem} {μ : List Addr} {Hf Fr H : Hp} {Q : VK} {o : HO} (p : Post K E (.ok d M) μ Hf Fr (kD K Q)) (s : SR K μ Hf Fr H M) {q : Addr} (hq : H q = none)
    (r : Same Hf (upd Hf q o) → Rep K μ (upd Hf q o) (.ref q) d) : Q (.ref q) (upd H q o) := by
  obtain ⟨s', e⟩ := s.froz (o := o) hq
  exact p (upd H q o) (upd Hf q o) μ e (List.prefix_refl _) s' _ (r e)
theorem rep_lst {K : Kf} {μ : List Addr} {Hf : Hp} {q : Addr} {vs : List V} {ds : List D} (r : RepAll K μ Hf vs ds) (e : Same Hf (upd Hf q (.lst vs))) : Rep K μ (upd Hf q (.lst vs)) (.ref q) (.lst ds) :=
  .lst upd_same (r.mono e (List.prefix_refl _))
theorem rep_tup {K : Kf} {μ : List Addr} {Hf : Hp} {q : Addr} {vs : List V} {ds : List D} (r : RepAll K μ Hf vs ds) (e : Same Hf (upd Hf q (.tup vs))) : Rep K μ (upd Hf q (.tup vs)) (.ref q) (.tup ds) :=
  .tup (SqT.of upd_same) (r.mono e (List.prefix_refl _))

@[irreducible] def lineD : Nat := 1000000
theorem lineD_eq : lineD = 1000000 := by unfold lineD; rfl
theorem lineD_le : lineD ≤ sizeLine := by rw [lineD_eq]; decide
theorem line_le {n : Nat} (h : n ≤ lineD) : n ≤ sizeLine := Nat.le_trans h lineD_le
theorem line_lt {n : Nat} (h : n < lineD) : n < sizeLine := Nat.lt_of_lt_of_le h lineD_le
theorem line1k {n : Nat} (h : n ≤ 10000) : n ≤ lineD := by rw [lineD_eq]; omega

section
variable {X : Cx} {E : XK} {a b c e : Expr} {es : List Expr} {fa fb fc F : FE} {pos : Pos}
theorem de_c {d : D} {t : TE} (v : V) (h : PE X e (tC v)) (r : ∀ μ Hf, Rep X.K μ Hf v d) : DE X E e (fun _ M => .ok d M) :=
  pe_imp h fun σ H Q ⟨μ, Hf, Fr, ρ, M, _, s, p⟩ => p.now s v (r μ Hf)
theorem de_int {i j pos} : DE X E (.Constant (.int i) j pos) (fun _ M => .ok (.int i) M) := de_c (t := tC (.int i)) (.int i) pe_int fun _ _ => .int i
theorem de_str {i j pos} : DE X E (.Constant (.str i) j pos) (fun _ M => .ok (.str i) M) := de_c (t := tC (.str i)) (.str i) pe_str fun _ _ => .str i
theorem de_bl {i j pos} : DE X E (.Constant (.bool i) j pos) (fun _ M => .ok (.bl i) M) := de_c (t := tC (.bl i)) (.bl i) pe_bl fun _ _ => .bl i
theorem de_non {j pos} : DE X E (.Constant .none j pos) (fun _ M => .ok .non M) := de_c (t := tC .non) .non pe_non fun _ _ => .non
/-- a name of the module -/
theorem de_glob {x : Str} {v : V} {u : Value} {d : D} {pos : Pos} (hg : Gl X x) (hm : X.mg x = some u) (r : RelV v u) (q : ∀ μ Hf, Rep X.K μ Hf v d) (hd : (x == ("__debug__" : Str)) = false := by decide) : DE X E (.Name x pos) (fun _ M => .ok d M) :=
  de_c (t := tC v) v (pe_glob hg hm r hd) q
@[simp] def eVar (i : Nat) : FE := fun ρ M => match ρ[i]? with
  | some (some d) => .ok d M
  | _ => .no
theorem de_var {i : Nat} {x : Str} {pos : Pos} (h : PE X (.Name x pos) (tVar i)) : DE X E (.Name x pos) (eVar i) := by
  refine pe_imp h fun σ H Q ⟨μ, Hf, Fr, ρ, M, r, s, p⟩ => ?_
  unfold eVar at p
  split at p
  · rename_i d e
    obtain ⟨v, h1, h2⟩ := r.slot i d e
    exact ⟨v, h1, p.now s v h2⟩
  · exact p.elim
theorem de_two {op : Operator} {g : G2} (ho : OpR X (binaryOp op) (rD2 X.K E g)) (ha : DE X E a fa) (hb : DE X E b fb) : DE X E (.BinOp a op b pos) (eTwo g fa fb) :=
  pe_imp (pe_op ho ha hb) fun _ _ _ h => two_go h
theorem de_cmp {op : CmpOp} {g : G2} (ho : OpR X (compareOp op) (rD2 X.K E g)) (ha : DE X E a fa) (hb : DE X E b fb) (hm : behindInMarks op b = false) : DE X E (.Compare a [op] [b] pos) (eTwo g fa fb) :=
  pe_imp (pe_cmpR ho ha hb hm) fun _ _ _ h => two_go h
/-- a value that is a bool, as a test -/
@[simp] def asB (o : Out D) : Out Bool := o.bind fun d M => match d with
  | .bl k => .ok k M
  | _ => .no
@[simp] def fB (F : FE) : FT := fun ρ M => asB (F ρ M)
theorem post_asB {K : Kf} {o : Out D} {μ : List Addr} {Hf Fr : Hp} {Q : Bool → Hp → Prop} (p : Post K E (asB o) μ Hf Fr (kB Q)) : Post K E o μ Hf Fr (kD K fun x H' => ∃ k, x = .bl k ∧ Q k H') := by
  refine p.split.weak fun d μ1 Hf1 H1 M1 e1 m1 s1 p1 v r => ?_
  cases d with
  | bl k => cases r; exact ⟨k, rfl, p1.now s1⟩
  | _ => exact p1.elim
theorem dt_of {op : CmpOp} {g : G2} (ho : OpR X (compareOp op) (rD2 X.K E g)) (ha : DE X E a fa) (hb : DE X E b fb) (hm : behindInMarks op b = false) : DT X E (.Compare a [op] [b] pos) (fB (eTwo g fa fb)) := by
  refine pt_imp (pt_cmpR ho ha hb hm) fun σ H Q ⟨μ, Hf, Fr, ρ, M, r, s, p⟩ => ?_
  exact two_go ⟨μ, Hf, Fr, ρ, M, r, s, post_asB p⟩
theorem dt_val (h : DE X E e F) (he : ∀ whole, isTrue e X.env whole = (do let v ← whole; standAt e.pos; holding [v] (truthy v)) := by intro _; rfl) : DT X E e (fB F) := by
  refine pt_imp (pt_val h he) fun σ H Q ⟨μ, Hf, Fr, ρ, M, r, s, p⟩ => ?_
  exact ⟨μ, Hf, Fr, ρ, M, r, s, post_asB p⟩

/-! ### whole numbers -/
def mulC (i j : Int) : Prop := CMul i j ∨ CMulW i j
instance (i j : Int) : Decidable (mulC i j) := by unfold mulC CMul CMulW; infer_instance
def powC (i j : Int) : Prop := 0 ≤ j ∧ (Builtin.Int.intBits i : Int) * j ≤ 2 ^ 27
instance (i j : Int) : Decidable (powC i j) := by unfold powC; infer_instance
theorem op_mulA : OpR X (binaryOp .Mult) (rI mulC fun i j => .int (i * j)) := opI fun _ _ _ _ _ _ _ hc q => mul_int q (hc.elim CMul.ok CMulW.ok)
theorem op_powA : OpR X (binaryOp .Pow) (rI powC fun i j => .int (i ^ j.toNat)) := opI fun _ _ _ _ _ _ _ hc q => pow_int hc.1 hc.2 q
@[simp] def iG (C : Int → Int → Prop) [∀ i j, Decidable (C i j)] (g : Int → Int → D) : G2 := fun x y M => match x, y with
  | .int i, .int j => if C i j then .ok (g i j) M else .no
  | _, _ => .no
theorem ints_of {K : Kf} {C : Int → Int → Prop} [∀ i j, Decidable (C i j)] {g : Int → Int → D} {g' : Int → Int → V} (hg : ∀ i j μ Hf, Rep K μ Hf (g' i j) (g i j)) {x y : V} {H : Hp} {Q : VK} (h : rD2 K E (iG C g) x y H Q) : rI C g' x y H Q := by
  obtain ⟨μ, Hf, Fr, M, d1, d2, r1, r2, s, p⟩ := h
  unfold iG at p
  split at p
  · cases r1; cases r2
    split at p
    · rename_i hc
      exact ⟨_, _, rfl, rfl, hc, p.now s _ (hg _ _ _ _)⟩
    · exact p.elim
  · exact p.elim
theorem opr_imp {f : Value → Value → Sem Value} {r r' : R2} (h : OpR X f r) (i : ∀ x y H Q, r' x y H Q → r x y H Q) : OpR X f r' :=
  fun pins s σ H x y v u Q I rx ry q => h pins s σ H x y v u Q I rx ry (i x y H Q q)
@[simp] def TT2 (_ _ : Int) : Prop := True
instance (i j : Int) : Decidable (TT2 i j) := by unfold TT2; infer_instance
theorem rI_true {g : Int → Int → V} {x y : V} {H : Hp} {Q : VK} (h : rI TT2 g x y H Q) : rI0 g x y H Q := by
  obtain ⟨i, j, h1, h2, _, q⟩ := h
  exact ⟨i, j, h1, h2, q⟩
def gSub : G2 := iG TT2 fun i j => .int (i - j)
@[simp] theorem gSub_ap (x y : D) (M : Mem) : gSub x y M = (iG TT2 fun i j => .int (i - j)) x y M := rfl
@[simp] def pos2 (_ j : Int) : Prop := 0 < j
instance (i j : Int) : Decidable (pos2 i j) := by unfold pos2; infer_instance
instance (i j : Int) : Decidable (CDivW i j) := by unfold CDivW; infer_instance
def gMul : G2 := iG mulC fun i j => .int (i * j)
def gPow : G2 := iG powC fun i j => .int (i ^ j.toNat)
def gDiv : G2 := iG CDivW fun i j => .int (i / j)
def gMod : G2 := iG pos2 fun i j => .int (i % j)
theorem o_sub : OpR X (binaryOp .Sub) (rD2 X.K E gSub) := opr_imp op_sub fun _ _ _ _ h => rI_true (ints_of (fun _ _ _ _ => .int _) h)
theorem o_mul : OpR X (binaryOp .Mult) (rD2 X.K E gMul) := opr_imp op_mulA fun _ _ _ _ h => ints_of (fun _ _ _ _ => .int _) h
theorem o_pow : OpR X (binaryOp .Pow) (rD2 X.K E gPow) := opr_imp op_powA fun _ _ _ _ h => ints_of (fun _ _ _ _ => .int _) h
theorem o_div : OpR X (binaryOp .FloorDiv) (rD2 X.K E gDiv) := opr_imp op_fdivW fun _ _ _ _ h => ints_of (fun _ _ _ _ => .int _) h
theorem o_mod : OpR X (binaryOp .Mod) (rD2 X.K E gMod) := opr_imp op_mod fun _ _ _ _ h => ints_of (C := pos2) (fun _ _ _ _ => .int _) h
def gLt : G2 := iG TT2 fun i j => .bl (decide (i < j))
@[simp] theorem gLt_ap (x y : D) (M : Mem) : gLt x y M = (iG TT2 fun i j => .bl (decide (i < j))) x y M := rfl
def gLe : G2 := iG TT2 fun i j => .bl (decide (i ≤ j))
@[simp] theorem gLe_ap (x y : D) (M : Mem) : gLe x y M = (iG TT2 fun i j => .bl (decide (i ≤ j))) x y M := rfl
def gGt : G2 := iG TT2 fun i j => .bl (decide (j < i))
@[simp] theorem gGt_ap (x y : D) (M : Mem) : gGt x y M = (iG TT2 fun i j => .bl (decide (j < i))) x y M := rfl
def gGe : G2 := iG TT2 fun i j => .bl (decide (j ≤ i))
@[simp] theorem gGe_ap (x y : D) (M : Mem) : gGe x y M = (iG TT2 fun i j => .bl (decide (j ≤ i))) x y M := rfl
theorem o_gt : OpR X (compareOp .Gt) (rD2 X.K E gGt) := opr_imp op_gt fun _ _ _ _ h => rI_true (ints_of (fun _ _ _ _ => .bl _) h)
theorem o_ge : OpR X (compareOp .GtE) (rD2 X.K E gGe) := opr_imp op_ge fun _ _ _ _ h => rI_true (ints_of (fun _ _ _ _ => .bl _) h)
theorem o_ltI : OpR X (compareOp .Lt) (rD2 X.K E gLt) := opr_imp op_lt fun _ _ _ _ h => rI_true (ints_of (fun _ _ _ _ => .bl _) h)
theorem o_leI : OpR X (compareOp .LtE) (rD2 X.K E gLe) := opr_imp op_le fun _ _ _ _ h => rI_true (ints_of (fun _ _ _ _ => .bl _) h)
/-- <= of two texts -/
def gLeS : G2 := fun x y M => match x, y with
  | .str a, .str b => .ok (.bl (decide (a.cps.toList ≤ b.cps.toList))) M
  | _, _ => .no

/-! ### + -/
@[simp] def gAdd : G2 := fun x y M => match x, y with
  | .int i, .int j => .ok (.int (i + j)) M
  | .str i, .str j => if i.length + j.length ≤ lineD then .ok (.str (i ++ j)) M else .no
  | .lst i, .lst j => if i.length + j.length ≤ lineD then .ok (.lst (i ++ j)) M else .no
  | _, _ => .no
theorem o_add : OpR X (binaryOp .Add) (rD2 X.K E gAdd) := by
  refine opr_imp (op_add.or (op_add_str.or op_cat)) fun x y H Q ⟨μ, Hf, Fr, M, d1, d2, r1, r2, s, p⟩ => ?_
  unfold gAdd at p
  split at p
  · cases r1; cases r2
    exact .inl ⟨_, _, rfl, rfl, p.now s _ (.int _)⟩
  · cases r1; cases r2
    split at p
    · rename_i hz
      exact .inr (.inl ⟨_, _, rfl, rfl, line_le hz, p.now s _ (.str _)⟩)
    · exact p.elim
  · split at p
    · rename_i hz
      cases r1 with
      | lst h1 q1 =>
        cases r2 with
        | lst h2 q2 =>
          refine .inr (.inr ⟨_, _, _, _, rfl, rfl, s.ex _ _ h1, s.ex _ _ h2, line_le (by rw [q1.length, q2.length]; exact hz), fun q hq => ?_⟩)
          exact p.new s hq fun e => rep_lst (q1.app q2) e
    · exact p.elim
  · exact p.elim

/-! ### data as the library's data: ==, !=, repr -/
mutual
def toPy : D → Option PyData
  | .non => some .none
  | .bl b => some (.bool b)
  | .int i => some (.int i)
  | .str x => some (.str x)
  | .lst xs => (toPys xs).map .list
  | .tup xs => (toPys xs).map .tuple
  | _ => none
def toPys : List D → Option (List PyData)
  | [] => some []
  | d :: ds => match toPy d, toPys ds with
    | some x, some xs => some (x :: xs)
    | _, _ => none
end
mutual
theorem Rep.dp {K : Kf} {μ : List Addr} {H H' : Hp} (e : Same H H') : ∀ (d : D) (v : V) (y : PyData), Rep K μ H v d → toPy d = some y → Dp K H' v y
  | .non, _, _, h, q => by cases h; cases q; exact .non
  | .bl _, _, _, h, q => by cases h; cases q; exact .bl _
  | .int _, _, _, h, q => by cases h; cases q; exact .int _
  | .str _, _, _, h, q => by cases h; cases q; exact .str _
  | .lst ds, _, y, h, q => by
    cases h with
    | lst s r =>
      unfold toPy at q
      cases hq : toPys ds with
      | none => rw [hq] at q; cases q
      | some ys =>
        rw [hq] at q; cases q
        exact .lst (SqL.of (e _ _ s)) (RepAll.dp e ds _ ys r hq)
  | .tup ds, _, y, h, q => by
    cases h with
    | tup s r =>
      unfold toPy at q
      cases hq : toPys ds with
      | none => rw [hq] at q; cases q
      | some ys =>
        rw [hq] at q; cases q
        exact .tup (same_t e s) (RepAll.dp e ds _ ys r hq)
  | .ty _, _, _, _, q => by cases q
  | .fn _, _, _, _, q => by cases q
  | .scr _, _, _, _, q => by cases q
  | .dct _ _, _, _, _, q => by cases q
  | .loc _, _, _, _, q => by cases q
  | .ins _ _ _, _, _, _, q => by cases q
theorem RepAll.dp {K : Kf} {μ : List Addr} {H H' : Hp} (e : Same H H') : ∀ (ds : List D) (vs : List V) (ys : List PyData), RepAll K μ H vs ds → toPys ds = some ys → DpAll K H' vs ys
  | [], _, _, h, q => by cases h; cases q; exact .nil
  | d :: ds, _, ys, h, q => by
    cases h with
    | cons r t =>
      unfold toPys at q
      cases h1 : toPy d with
      | none => rw [h1] at q; cases q
      | some x =>
        cases h2 : toPys ds with
        | none => rw [h1, h2] at q; cases q
        | some xs =>
          rw [h1, h2] at q; cases q
          exact .cons (Rep.dp e d _ x r h1) (RepAll.dp e ds _ xs t h2)
end
@[simp] def gEqv (f : Bool → Bool) : G2 := fun x y M => match x, y with
  | .str a, .str b => .ok (.bl (f (decide (a = b)))) M
  | .int a, .int b => .ok (.bl (f (decide (a = b)))) M
  | .bl a, .bl b => .ok (.bl (f (decide (a = b)))) M
  | x, y => match toPy x, toPy y with
    | some p, some q => if SeqAt.shaped p = true ∧ SeqAt.shaped q = true then .ok (.bl (f (PyData.eqv p q))) M else .no
    | _, _ => .no
def gEq : G2 := gEqv fun b => b
@[simp] theorem gEq_ap (x y : D) (M : Mem) : gEq x y M = (gEqv fun b => b) x y M := rfl
def gNe : G2 := gEqv fun b => !b
@[simp] theorem gNe_ap (x y : D) (M : Mem) : gNe x y M = (gEqv fun b => !b) x y M := rfl
theorem dec_ctor {α : Type} [DecidableEq α] {c : α → V} (h : ∀ a b, c a = c b → a = b) (a b : α) : decide (c a = c b) = decide (a = b) := decide_eq_decide.mpr ⟨h a b, fun e => by rw [e]⟩
theorem o_eq (hu : X.A.units + 64 < cLine) : OpR X (compareOp .Eq) (rD2 X.K E gEq) := by
  refine opr_imp (op_eq.or (op_eqD hu)) fun x y H Q ⟨μ, Hf, Fr, M, d1, d2, r1, r2, s, p⟩ => ?_
  unfold gEq gEqv at p
  split at p
  · cases r1; cases r2; exact .inl ⟨rfl, by rw [dec_ctor (c := V.str) fun a b e => V.str.inj e]; exact p.now s _ (.bl _)⟩
  · cases r1; cases r2; exact .inl ⟨rfl, by rw [dec_ctor (c := V.int) fun a b e => V.int.inj e]; exact p.now s _ (.bl _)⟩
  · cases r1; cases r2; exact .inl ⟨rfl, by rw [dec_ctor (c := V.bl) fun a b e => V.bl.inj e]; exact p.now s _ (.bl _)⟩
  · split at p
    · rename_i p1 p2 e1 e2
      split at p
      · rename_i hs
        exact .inr ⟨p1, p2, r1.dp s.ex _ _ _ e1, r2.dp s.ex _ _ _ e2, hs.1, hs.2, p.now s _ (.bl _)⟩
      · exact p.elim
    · exact p.elim
theorem o_ne (hu : X.A.units + 64 < cLine) : OpR X (compareOp .NotEq) (rD2 X.K E gNe) := by
  refine opr_imp (op_ne.or (op_neD hu)) fun x y H Q ⟨μ, Hf, Fr, M, d1, d2, r1, r2, s, p⟩ => ?_
  unfold gNe gEqv at p
  split at p
  · cases r1; cases r2; exact .inl ⟨rfl, by rw [dec_ctor (c := V.str) fun a b e => V.str.inj e]; exact p.now s _ (.bl _)⟩
  · cases r1; cases r2; exact .inl ⟨rfl, by rw [dec_ctor (c := V.int) fun a b e => V.int.inj e]; exact p.now s _ (.bl _)⟩
  · cases r1; cases r2; exact .inl ⟨rfl, by rw [dec_ctor (c := V.bl) fun a b e => V.bl.inj e]; exact p.now s _ (.bl _)⟩
  · split at p
    · rename_i p1 p2 e1 e2
      split at p
      · rename_i hs
        exact .inr ⟨p1, p2, r1.dp s.ex _ _ _ e1, r2.dp s.ex _ _ _ e2, hs.1, hs.2, p.now s _ (.bl _)⟩
      · exact p.elim
    · exact p.elim
end
end Den
namespace Den
open PySem PySem.Spec PyProof.Rows L2

/-! ### truth -/
@[simp] def truD (d : D) (M : Mem) : Option Bool := match d with
  | .non => some false
  | .bl b => some b
  | .int i => some (i != 0)
  | .str y => if y.length ≤ lineD then some ((y.length : Int) != 0) else none
  | .lst xs => some (!xs.isEmpty)
  | .scr xs => some (!xs.isEmpty)
  | .tup xs => some (!xs.isEmpty)
  | .loc n => match M[n]? with
    | some (some xs) => some (!xs.isEmpty)
    | _ => none
  | _ => none
theorem RepAll.empty {K : Kf} {μ : List Addr} {H : Hp} {vs : List V} {ds : List D} (r : RepAll K μ H vs ds) : vs.isEmpty = ds.isEmpty := by cases r <;> rfl
theorem tru_of {K : Kf} {μ : List Addr} {Hf Fr H : Hp} {M : Mem} {v : V} {d : D} {k : Bool} (s : SR K μ Hf Fr H M) (r : Rep K μ Hf v d) (h : truD d M = some k) : TruV K v H k := by
  unfold truD at h
  split at h
  · cases r; cases h; exact rfl
  · cases r; cases h; exact rfl
  · cases r; cases h; exact rfl
  · cases r
    split at h
    · rename_i hz; cases h; exact ⟨line_le hz, rfl⟩
    · cases h
  · cases h
    cases r with
    | lst q t => exact .inl ⟨_, SqL.of (s.ex _ _ q), by rw [t.empty]⟩
  · cases h
    cases r with
    | scr q t => exact .inl ⟨_, same_l s.ex q, by rw [t.empty]⟩
  · cases h
    cases r with
    | tup q t => exact .inr (.inl ⟨_, same_t s.ex q, by rw [t.empty]⟩)
  · cases r with
    | loc q =>
      split at h
      · rename_i xs hM
        cases h
        obtain ⟨a, vs, h1, h2, h3, h4, h5⟩ := s.cell _ _ hM
        rw [q] at h1; cases h1
        exact .inl ⟨_, SqL.of h4, by rw [h5.empty]⟩
      · cases h
  · cases h
@[simp] def truO (d : D) (M : Mem) : Out Bool := match truD d M with
  | some k => .ok k M
  | none => .no
@[simp] def fTru (F : FE) : FT := fun ρ M => (F ρ M).bind truO
section
variable {X : Cx} {E : XK} {a b c e o : Expr} {es rest : List Expr} {fa fb fc F : FE} {ft fu : FT} {pos : Pos}
theorem dt_tru (ha : DE X E a F) (he : ∀ whole, isTrue a X.env whole = (do let v ← whole; standAt a.pos; holding [v] (truthy v)) := by intro _; rfl) : DT X E a (fTru F) := by
  refine pt_imp (pt_truth ha he) fun σ H Q ⟨μ, Hf, Fr, ρ, M, r, s, p⟩ => ?_
  refine ⟨μ, Hf, Fr, ρ, M, r, s, p.split.weak fun d μ1 Hf1 H1 M1 e1 m1 s1 p1 v r1 => ?_⟩
  unfold truO at p1
  split at p1
  · rename_i k hk
    exact ⟨k, tru_of s1 r1 hk, p1.now s1⟩
  · exact p1.elim
@[simp] def tNotF (t : FT) : FT := fun ρ M => (t ρ M).bind fun k M1 => .ok (!k) M1
theorem dt_not (ha : DT X E a ft) : DT X E (.UnaryOp .Not a pos) (tNotF ft) := by
  refine pt_imp (pt_not ha) fun σ H Q ⟨μ, Hf, Fr, ρ, M, r, s, p⟩ => ?_
  exact ⟨μ, Hf, Fr, ρ, M, r, s, p.split.weak fun d μ1 Hf1 H1 M1 e1 m1 s1 p1 => p1.now s1⟩
abbrev DW (X : Cx) (E : XK) (e : Expr) (F : FT) : Prop := PW X e (ttF X.K E F)
@[simp] def tAndF (t u : FT) : FT := fun ρ M => (t ρ M).bind fun k M1 => if k = true then u ρ M1 else .ok false M1
@[simp] def tOrF (t u : FT) : FT := fun ρ M => (t ρ M).bind fun k M1 => if k = true then .ok true M1 else u ρ M1
theorem pw_imp {t t' : TT} (h : PW X e t) (i : ∀ σ H Q, t' σ H Q → t σ H Q) : PW X e t' := ⟨fun wh pins s σ H Q I q => h.run wh pins s σ H Q I (i σ H Q q)⟩
theorem dw_and1 (ha : DT X E a ft) : DW X E (.BoolOp .And [a] pos) ft := pw_and1 ha
theorem dw_or1 (ha : DT X E a ft) : DW X E (.BoolOp .Or [a] pos) ft := pw_or1 ha
theorem dw_and (ha : DT X E a ft) (hb : DW X E (.BoolOp .And (b :: rest) pos) fu) : DW X E (.BoolOp .And (a :: b :: rest) pos) (tAndF ft fu) := by
  refine pw_imp (pw_and ha hb) fun σ H Q ⟨μ, Hf, Fr, ρ, M, r, s, p⟩ => ?_
  refine ⟨μ, Hf, Fr, ρ, M, r, s, p.split.weak fun k μ1 Hf1 H1 M1 e1 m1 s1 p1 => ?_⟩
  cases k with
  | true => exact iteT ⟨μ1, Hf1, Fr, ρ, M1, r.mono e1 m1, s1, p1⟩
  | false => exact iteF (p1.now s1)
theorem dw_or (ha : DT X E a ft) (hb : DW X E (.BoolOp .Or (b :: rest) pos) fu) : DW X E (.BoolOp .Or (a :: b :: rest) pos) (tOrF ft fu) := by
  refine pw_imp (pw_or ha hb) fun σ H Q ⟨μ, Hf, Fr, ρ, M, r, s, p⟩ => ?_
  refine ⟨μ, Hf, Fr, ρ, M, r, s, p.split.weak fun k μ1 Hf1 H1 M1 e1 m1 s1 p1 => ?_⟩
  cases k with
  | true => exact iteT (p1.now s1)
  | false => exact iteF ⟨μ1, Hf1, Fr, ρ, M1, r.mono e1 m1, s1, p1⟩
theorem dt_w (h : DW X E e ft) : DT X E e ft := h.pt
/-- and, or, not as values -/
@[simp] def eAnd (fa fb : FE) : FE := fun ρ M => (fa ρ M).bind fun x M1 => (truO x M1).bind fun k M2 => if k = true then fb ρ M2 else .ok x M2
@[simp] def eOr (fa fb : FE) : FE := fun ρ M => (fa ρ M).bind fun x M1 => (truO x M1).bind fun k M2 => if k = true then .ok x M2 else fb ρ M2
@[simp] def eNot (fa : FE) : FE := fun ρ M => (fa ρ M).bind fun x M1 => (truO x M1).bind fun k M2 => .ok (.bl (!k)) M2
theorem truO_ok {d : D} {M M' : Mem} {k : Bool} (h : truD d M = some k) : truO d M = .ok k M := by unfold truO; rw [h]
theorem de_one {op} (h : DE X E a F) : DE X E (.BoolOp op [a] pos) F := pe_one h
theorem de_and (ha : DE X E a fa) (hb : DE X E (.BoolOp .And (b :: rest) pos) fb) : DE X E (.BoolOp .And (a :: b :: rest) pos) (eAnd fa fb) := by
  refine pe_imp (pe_andT ha hb) fun σ H Q ⟨μ, Hf, Fr, ρ, M, r, s, p⟩ => ?_
  refine ⟨μ, Hf, Fr, ρ, M, r, s, p.split.weak fun d μ1 Hf1 H1 M1 e1 m1 s1 p1 v r1 => ?_⟩
  cases hk : truD d M1 with
  | none => unfold truO at p1; rw [hk] at p1; exact p1.elim
  | some k =>
    rw [truO_ok hk (M' := M1)] at p1
    refine ⟨k, tru_of s1 r1 hk, ?_⟩
    cases k with
    | true => exact iteT ⟨μ1, Hf1, Fr, ρ, M1, r.mono e1 m1, s1, p1⟩
    | false => exact iteF (p1.now s1 v r1)
theorem de_or (ha : DE X E a fa) (hb : DE X E (.BoolOp .Or (b :: rest) pos) fb) : DE X E (.BoolOp .Or (a :: b :: rest) pos) (eOr fa fb) := by
  refine pe_imp (pe_orT ha hb) fun σ H Q ⟨μ, Hf, Fr, ρ, M, r, s, p⟩ => ?_
  refine ⟨μ, Hf, Fr, ρ, M, r, s, p.split.weak fun d μ1 Hf1 H1 M1 e1 m1 s1 p1 v r1 => ?_⟩
  cases hk : truD d M1 with
  | none => unfold truO at p1; rw [hk] at p1; exact p1.elim
  | some k =>
    rw [truO_ok hk (M' := M1)] at p1
    refine ⟨k, tru_of s1 r1 hk, ?_⟩
    cases k with
    | true => exact iteT (p1.now s1 v r1)
    | false => exact iteF ⟨μ1, Hf1, Fr, ρ, M1, r.mono e1 m1, s1, p1⟩
theorem de_not (ha : DE X E a fa) : DE X E (.UnaryOp .Not a pos) (eNot fa) := by
  refine pe_imp (pe_notT ha) fun σ H Q ⟨μ, Hf, Fr, ρ, M, r, s, p⟩ => ?_
  refine ⟨μ, Hf, Fr, ρ, M, r, s, p.split.weak fun d μ1 Hf1 H1 M1 e1 m1 s1 p1 v r1 => ?_⟩
  cases hk : truD d M1 with
  | none => unfold truO at p1; rw [hk] at p1; exact p1.elim
  | some k =>
    rw [truO_ok hk (M' := M1)] at p1
    exact ⟨k, tru_of s1 r1 hk, p1.now s1 _ (.bl _)⟩
@[simp] def eIf (t : FT) (fa fb : FE) : FE := fun ρ M => (t ρ M).bind fun k M1 => if k = true then fa ρ M1 else fb ρ M1
theorem de_ifx (hc : DT X E c ft) (ha : DE X E a fa) (hb : DE X E b fb) : DE X E (.IfExp c a b pos) (eIf ft fa fb) := by
  refine pe_imp (pe_ifExp hc ha hb) fun σ H Q ⟨μ, Hf, Fr, ρ, M, r, s, p⟩ => ?_
  refine ⟨μ, Hf, Fr, ρ, M, r, s, p.split.weak fun k μ1 Hf1 H1 M1 e1 m1 s1 p1 => ?_⟩
  cases k with
  | true => exact iteT ⟨μ1, Hf1, Fr, ρ, M1, r.mono e1 m1, s1, p1⟩
  | false => exact iteF ⟨μ1, Hf1, Fr, ρ, M1, r.mono e1 m1, s1, p1⟩
/-- a op b op' c -/
@[simp] def eChain (g g' : G2) (fa fb fc : FE) : FE := fun ρ M => (fa ρ M).bind fun x M1 => (fb ρ M1).bind fun y M2 => (asB (g x y M2)).bind fun k M3 => if k = true then (fc ρ M3).bind fun z M4 => g' y z M4 else .ok (.bl false) M3
theorem chain_go {K : Kf} {g g' : G2} {σ : L2.St} {H : Hp} {Q : VK} (h : teF K E (eChain g g' fa fb fc) σ H Q) : tChain (rD2 K E g) (rD2 K E g') (teF K E fa) (teF K E fb) (teF K E fc) σ H Q := by
  obtain ⟨μ, Hf, Fr, ρ, M, r, s, p⟩ := h
  refine ⟨μ, Hf, Fr, ρ, M, r, s, p.split.weak fun x μ1 Hf1 H1 M1 e1 m1 s1 p1 v1 r1 => ?_⟩
  refine ⟨μ1, Hf1, Fr, ρ, M1, r.mono e1 m1, s1, p1.split.weak fun y μ2 Hf2 H2 M2 e2 m2 s2 p2 v2 r2 => ?_⟩
  refine ⟨μ2, Hf2, Fr, M2, x, y, Rep.mono e2 m2 _ _ r1, r2, s2, ?_⟩
  refine p2.split.split.weak fun d μ3 Hf3 H3 M3 e3 m3 s3 p3 w rw => ?_
  cases d with
  | bl k =>
    cases rw
    refine ⟨k, rfl, ?_⟩
    have p4 := p3.now s3
    cases k with
    | true =>
      refine iteT ⟨μ3, Hf3, Fr, ρ, M3, ((r.mono e1 m1).mono e2 m2).mono e3 m3, s3, p4.split.weak fun z μ5 Hf5 H5 M5 e5 m5 s5 p5 v5 r5 => ?_⟩
      exact ⟨μ5, Hf5, Fr, M5, y, z, Rep.mono e5 m5 _ _ (Rep.mono e3 m3 _ _ r2), r5, s5, p5⟩
    | false => exact iteF (p4.now s3 _ (.bl _))
  | _ => exact p3.elim
theorem de_chain {op op' : CmpOp} {g g' : G2} (ho : OpR X (compareOp op) (rD2 X.K E g)) (ho' : OpR X (compareOp op') (rD2 X.K E g')) (ha : DE X E a fa) (hb : DE X E b fb) (hc : DE X E c fc)
    (hm : lastMarks [op, op'] [b, c] = false := by with_unfolding_all rfl) : DE X E (.Compare a [op, op'] [b, c] pos) (eChain g g' fa fb fc) :=
  pe_imp (pe_chain ho ho' ha hb hc hm) fun _ _ _ h => chain_go h
theorem dt_chain {op op' : CmpOp} {g g' : G2} (ho : OpR X (compareOp op) (rD2 X.K E g)) (ho' : OpR X (compareOp op') (rD2 X.K E g')) (ha : DE X E a fa) (hb : DE X E b fb) (hc : DE X E c fc)
    (hm : lastMarks [op, op'] [b, c] = false := by with_unfolding_all rfl) : DT X E (.Compare a [op, op'] [b, c] pos) (fB (eChain g g' fa fb fc)) := by
  refine pt_imp (pt_chain ho ho' ha hb hc hm) fun σ H Q ⟨μ, Hf, Fr, ρ, M, r, s, p⟩ => ?_
  exact chain_go ⟨μ, Hf, Fr, ρ, M, r, s, post_asB p⟩

/-! ### arguments, displays -/
@[simp] def aNil : FA := fun _ M => .ok [] M
@[simp] def aCons (f : FE) (g : FA) : FA := fun ρ M => (f ρ M).bind fun x M1 => (g ρ M1).bind fun xs M2 => .ok (x :: xs) M2
variable {fg : FA}
theorem da_nil : DA X E [] aNil := pa_imp pa_nil fun σ H Q ⟨μ, Hf, Fr, ρ, M, r, s, p⟩ => p.now s _ .nil
theorem da_cons (ha : DE X E e F) (hr : DA X E es fg) (hs : starEach (e :: es) X.env = (false, eval e X.env) :: starEach es X.env := by rfl) : DA X E (e :: es) (aCons F fg) := by
  refine pa_imp (pa_cons ha hr hs) fun σ H Q ⟨μ, Hf, Fr, ρ, M, r, s, p⟩ => ?_
  refine ⟨μ, Hf, Fr, ρ, M, r, s, p.split.weak fun x μ1 Hf1 H1 M1 e1 m1 s1 p1 v1 r1 => ?_⟩
  refine ⟨μ1, Hf1, Fr, ρ, M1, r.mono e1 m1, s1, p1.split.weak fun xs μ2 Hf2 H2 M2 e2 m2 s2 p2 vs rs => ?_⟩
  exact p2.now s2 _ (.cons (Rep.mono e2 m2 _ _ r1) rs)
@[simp] def eTup (g : FA) : FE := fun ρ M => (g ρ M).bind fun xs M1 => if xs.length ≤ lineD then .ok (.tup xs) M1 else .no
@[simp] def eLst (g : FA) : FE := fun ρ M => (g ρ M).bind fun xs M1 => if xs.length ≤ lineD then .ok (.lst xs) M1 else .no
@[simp] def eLoc (g : FA) : FE := fun ρ M => (g ρ M).bind fun xs M1 => if xs.length ≤ lineD then .ok (.loc M1.length) (M1 ++ [some xs]) else .no
theorem de_tup {x1} (h : DA X E es fg) : DE X E (.Tuple es x1 pos) (eTup fg) := by
  refine pe_imp (pe_tup h) fun σ H Q ⟨μ, Hf, Fr, ρ, M, r, s, p⟩ => ?_
  refine ⟨μ, Hf, Fr, ρ, M, r, s, p.split.weak fun xs μ1 Hf1 H1 M1 e1 m1 s1 p1 vs rs => ?_⟩
  split at p1
  · rename_i hz
    exact ⟨line_le (by rw [rs.length]; exact hz), fun q hq => p1.new s1 hq fun e => rep_tup rs e⟩
  · exact p1.elim
theorem de_lst (h : DA X E es fg) : DE X E (.List es pos) (eLst fg) := by
  refine pe_imp (pe_lst h) fun σ H Q ⟨μ, Hf, Fr, ρ, M, r, s, p⟩ => ?_
  refine ⟨μ, Hf, Fr, ρ, M, r, s, p.split.weak fun xs μ1 Hf1 H1 M1 e1 m1 s1 p1 vs rs => ?_⟩
  split at p1
  · rename_i hz
    exact ⟨line_le (by rw [rs.length]; exact hz), fun q hq => p1.new s1 hq fun e => rep_lst rs e⟩
  · exact p1.elim
/-- a new list handed out as one that may change -/
theorem Post.newLoc {K : Kf} {M : Mem} {μ : List Addr} {Hf Fr H : Hp} {Q : VK} {vs : List V} {ds : List D} (p : Post K E (.ok (.loc M.length) (M ++ [some ds])) μ Hf Fr (kD K Q)) (s : SR K μ Hf Fr H M) {q : Addr} (hq : H q = none)
    (r : RepAll K μ Hf vs ds) : Q (.ref q) (upd H q (.lst vs)) := by
  obtain ⟨s', e⟩ := s.grow hq r
  exact p _ Hf (μ ++ [q]) (Same.refl _) (List.prefix_append _ _) s' _ (.loc e)
theorem de_loc (h : DA X E es fg) : DE X E (.List es pos) (eLoc fg) := by
  refine pe_imp (pe_lst h) fun σ H Q ⟨μ, Hf, Fr, ρ, M, r, s, p⟩ => ?_
  refine ⟨μ, Hf, Fr, ρ, M, r, s, p.split.weak fun xs μ1 Hf1 H1 M1 e1 m1 s1 p1 vs rs => ?_⟩
  split at p1
  · rename_i hz
    exact ⟨line_le (by rw [rs.length]; exact hz), fun q hq => p1.newLoc s1 hq rs⟩
  · exact p1.elim
/-- a changing list becomes data -/
@[simp] def eSeal (F : FE) : FE := fun ρ M => (F ρ M).bind fun d M1 => match d with
  | .loc n => match M1[n]? with
    | some (some xs) => .ok (.lst xs) (M1.set n none)
    | _ => .no
  | _ => .no
theorem de_seal (h : DE X E e F) : DE X E e (eSeal F) := by
  refine pe_imp h fun σ H Q ⟨μ, Hf, Fr, ρ, M, r, s, p⟩ => ?_
  refine ⟨μ, Hf, Fr, ρ, M, r, s, p.split.weak fun d μ1 Hf1 H1 M1 e1 m1 s1 p1 v r1 => ?_⟩
  split at p1
  · cases r1 with
    | loc q =>
      split at p1
      · rename_i xs hM
        obtain ⟨Hf2, e2, s2, r2⟩ := s1.seal hM q
        exact p1 H1 Hf2 μ1 e2 (List.prefix_refl _) s2 _ r2
      · exact p1.elim
  · exact p1.elim

/-! ### calls of built-ins -/
abbrev GA := List D → Mem → Out D
def rA (K : Kf) (E : XK) (g : GA) : List V → Hp → VK → Prop := fun vs H Q => ∃ μ Hf Fr M ds, RepAll K μ Hf vs ds ∧ SR K μ Hf Fr H M ∧ Post K E (g ds M) μ Hf Fr (kD K Q)
@[simp] def eApp (g : GA) (fg : FA) : FE := fun ρ M => (fg ρ M).bind g
theorem app_go {K : Kf} {g : GA} {σ : L2.St} {H : Hp} {Q : VK} (h : teF K E (eApp g fg) σ H Q) : taF K E fg σ H (fun vs H1 => rA K E g vs H1 Q) := by
  obtain ⟨μ, Hf, Fr, ρ, M, r, s, p⟩ := h
  exact ⟨μ, Hf, Fr, ρ, M, r, s, p.split.weak fun xs μ1 Hf1 H1 M1 e1 m1 s1 p1 vs rs => ⟨μ1, Hf1, Fr, M1, xs, rs, s1, p1⟩⟩
theorem de_bi {x : Str} {p : Pos} {id : String} {g : GA} (hc : CallR X (.builtin id) (rA X.K E g)) (hg : Gl X x) (hm : X.mg x = none) (hv : bootBuiltins x = some (.builtin id)) (ha : DA X E (e :: es) fg) (hn : x ≠ "__name__" := by decide) (hdb : (x == ("__debug__" : Str)) = false := by decide)
    (he : starEach (e :: es) X.env = (false, eval e X.env) :: starEach es X.env := by rfl) (hpl : (backTo pos (starEach es X.env)).any (·.1) = false := by rfl) : DE X E (.Call (.Name x p) (e :: es) [] pos) (eApp g fg) :=
  pe_imp (pe_callB hc hg hm hv ha hn hdb he hpl) fun _ _ _ h => app_go h
theorem de_bt {x : Str} {p : Pos} {T : String} {g : GA} (hc : CallR X (.type T) (rA X.K E g)) (hg : Gl X x) (hm : X.mg x = none) (hv : bootBuiltins x = some (.type T)) (ha : DA X E (e :: es) fg) (hn : x ≠ "__name__" := by decide) (hdb : (x == ("__debug__" : Str)) = false := by decide)
    (he : starEach (e :: es) X.env = (false, eval e X.env) :: starEach es X.env := by rfl) (hpl : (backTo pos (starEach es X.env)).any (·.1) = false := by rfl) : DE X E (.Call (.Name x p) (e :: es) [] pos) (eApp g fg) :=
  pe_imp (pe_callTy hc hg hm hv ha hn hdb he hpl) fun _ _ _ h => app_go h
theorem callr_imp {f : Value} {r r' : List V → Hp → VK → Prop} (h : CallR X f r) (i : ∀ vs H Q, r' vs H Q → r vs H Q) : CallR X f r' := fun pins s σ H xs us Q I rx q => h pins s σ H xs us Q I rx (i xs H Q q)
theorem callr_or {f : Value} {r r' : List V → Hp → VK → Prop} (h : CallR X f r) (h' : CallR X f r') : CallR X f (fun xs H Q => r xs H Q ∨ r' xs H Q) := h.or h'
/-- the items of a list or a tuple -/
@[simp] def itemsD (d : D) (M : Mem) : Option (List D) := match d with
  | .lst xs => some xs
  | .scr xs => some xs
  | .loc n => match M[n]? with
    | some (some xs) => some xs
    | _ => none
  | _ => none
theorem items_of {K : Kf} {μ : List Addr} {Hf Fr H : Hp} {M : Mem} {v : V} {d : D} {ds : List D} (s : SR K μ Hf Fr H M) (r : Rep K μ Hf v d) (h : itemsD d M = some ds) : ∃ a vs, v = .ref a ∧ SqL K H a vs ∧ RepAll K μ Hf vs ds := by
  unfold itemsD at h
  split at h
  · cases h
    cases r with
    | lst q t => exact ⟨_, _, rfl, SqL.of (s.ex _ _ q), t⟩
  · cases h
    cases r with
    | scr q t => exact ⟨_, _, rfl, same_l s.ex q, t⟩
  · cases r with
    | loc q =>
      split at h
      · rename_i xs hM
        cases h
        obtain ⟨a, vs, h1, h2, h3, h4, h5⟩ := s.cell _ _ hM
        rw [q] at h1; cases h1
        exact ⟨_, _, rfl, SqL.of h4, h5⟩
      · cases h
  · cases h
@[simp] def gLen : GA := fun ds M => match ds with
  | [.str y] => if y.length ≤ lineD then .ok (.int y.length) M else .no
  | [.tup xs] => .ok (.int xs.length) M
  | [d] => match itemsD d M with
    | some xs => .ok (.int xs.length) M
    | none => .no
  | _ => .no
theorem c_len : CallR X (.builtin "len") (rA X.K E gLen) := by
  refine callr_imp call_len fun vs H Q ⟨μ, Hf, Fr, M, ds, rs, s, p⟩ => ?_
  unfold gLen at p
  split at p
  · cases rs with
    | cons r t =>
      cases r; cases t
      split at p
      · rename_i hz; exact ⟨_, _, rfl, ⟨line_le hz, rfl⟩, p.now s _ (.int _)⟩
      · exact p.elim
  · cases rs with
    | cons r t =>
      cases t
      cases r with
      | tup q t => exact ⟨_, _, rfl, .inr ⟨_, same_t s.ex q, rfl⟩, p.now s _ (by rw [t.length]; exact .int _)⟩
  · split at p
    · rename_i xs hx
      cases rs with
      | cons r t =>
        cases t
        obtain ⟨a, vs, rfl, q, t⟩ := items_of s r hx
        exact ⟨_, _, rfl, .inl ⟨_, q, rfl⟩, p.now s _ (by rw [t.length]; exact .int _)⟩
    · exact p.elim
  · exact p.elim
@[simp] def gAbs : GA := fun ds M => match ds with
  | [.int i] => .ok (.int (if i < 0 then -i else i)) M
  | _ => .no
theorem c_abs : CallR X (.builtin "abs") (rA X.K E gAbs) := by
  refine callr_imp call_abs fun vs H Q ⟨μ, Hf, Fr, M, ds, rs, s, p⟩ => ?_
  unfold gAbs at p
  split at p
  · cases rs with
    | cons r t => cases r; cases t; exact ⟨_, rfl, p.now s _ (.int _)⟩
  · exact p.elim
@[simp] def gMax : GA := fun ds M => match ds with
  | [.int i, .int j] => .ok (.int (if j > i then j else i)) M
  | _ => .no
@[simp] def gMin : GA := fun ds M => match ds with
  | [.int i, .int j] => .ok (.int (if j < i then j else i)) M
  | _ => .no
theorem c_max (hc : X.calm = true) : CallR X (.builtin "max") (rA X.K E gMax) := by
  refine callr_imp (call_max2 hc) fun vs H Q ⟨μ, Hf, Fr, M, ds, rs, s, p⟩ => ?_
  unfold gMax at p
  split at p
  · cases rs with
    | cons r t =>
      cases r
      cases t with
      | cons r t => cases r; cases t; exact ⟨_, _, rfl, p.now s _ (.int _)⟩
  · exact p.elim
theorem c_min (hc : X.calm = true) : CallR X (.builtin "min") (rA X.K E gMin) := by
  refine callr_imp (call_min2 hc) fun vs H Q ⟨μ, Hf, Fr, M, ds, rs, s, p⟩ => ?_
  unfold gMin at p
  split at p
  · cases rs with
    | cons r t =>
      cases r
      cases t with
      | cons r t => cases r; cases t; exact ⟨_, _, rfl, p.now s _ (.int _)⟩
  · exact p.elim
@[simp] def gInt : GA := fun ds M => match ds with
  | [.int i] => .ok (.int i) M
  | [.bl k] => .ok (.int (if k then 1 else 0)) M
  | _ => .no
theorem c_int : CallR X (.type "int") (rA X.K E gInt) := by
  refine callr_imp call_int1 fun vs H Q ⟨μ, Hf, Fr, M, ds, rs, s, p⟩ => ?_
  unfold gInt at p
  split at p
  · cases rs with
    | cons r t => cases r; cases t; exact .inl ⟨_, rfl, p.now s _ (.int _)⟩
  · cases rs with
    | cons r t => cases r; cases t; exact .inr ⟨_, rfl, p.now s _ (.int _)⟩
  · exact p.elim
def bls? : List D → Option (List Bool)
  | [] => some []
  | .bl b :: ds => (bls? ds).map (b :: ·)
  | _ => none
theorem bls_of : ∀ {ds : List D} {bs : List Bool}, bls? ds = some bs → ds = bs.map D.bl
  | [], bs, h => by cases h; rfl
  | .bl b :: ds, bs, h => by
    unfold bls? at h
    cases e : bls? ds with
    | none => rw [e] at h; cases h
    | some cs => rw [e] at h; cases h; rw [List.map_cons, bls_of e]
  | .non :: _, _, h => by cases h
  | .int _ :: _, _, h => by cases h
  | .str _ :: _, _, h => by cases h
  | .ty _ :: _, _, h => by cases h
  | .fn _ :: _, _, h => by cases h
  | .lst _ :: _, _, h => by cases h
  | .tup _ :: _, _, h => by cases h
  | .scr _ :: _, _, h => by cases h
  | .dct _ _ :: _, _, h => by cases h
  | .loc _ :: _, _, h => by cases h
  | .ins _ _ _ :: _, _, h => by cases h
def gAll (f : List Bool → Bool) : GA := fun ds M => match ds with
  | [.lst xs] => match bls? xs with
    | some bs => .ok (.bl (f bs)) M
    | none => .no
  | _ => .no
theorem c_all (hc : X.calm = true) : CallR X (.builtin "all") (rA X.K E (gAll fun bs => bs.all id)) := by
  refine callr_imp (cr_all hc) fun vs H Q ⟨μ, Hf, Fr, M, ds, rs, s, p⟩ => ?_
  unfold gAll at p
  split at p
  · split at p
    · rename_i bs hb
      cases rs with
      | cons r t =>
        cases t
        cases r with
        | lst q t =>
          rw [bls_of hb] at t
          exact ⟨_, bs, rfl, by rw [← t.bls]; exact SqL.of (s.ex _ _ q), p.now s _ (.bl _)⟩
    · exact p.elim
  · exact p.elim
/-- isinstance with a built-in class -/
@[simp] def tyD : D → Option String
  | .non => some "NoneType" | .bl _ => some "bool" | .int _ => some "int" | .str _ => some "str"
  | .lst _ => some "list" | .scr _ => some "list" | .tup _ => some "tuple" | .dct _ _ => some "dict" | _ => none
def tyS : List String := ["NoneType", "bool", "int", "str", "list", "tuple", "dict"]
def isiB (a b : String) : Bool := a == b || (a == "bool" && b == "int")
theorem kit_tab : ∀ a ∈ tyS, ∀ b ∈ tyS, kitB a b = some (isiB a b) := by decide +kernel
theorem tyD_mem {d : D} {t : String} (h : tyD d = some t) : t ∈ tyS := by
  cases d <;> cases h <;> decide +kernel
theorem tyD_of {K : Kf} {μ : List Addr} {Hf Fr H : Hp} {M : Mem} {v : V} {d : D} {t : String} (s : SR K μ Hf Fr H M) (r : Rep K μ Hf v d) (h : tyD d = some t) : TyX K H v (.type t) := by
  cases r with
  | non => cases h; exact .base .non
  | bl b => cases h; exact .base (.bl b)
  | int i => cases h; exact .base (.int i)
  | str x => cases h; exact .base (.str x)
  | ty n => cases h
  | fn a => cases h
  | lst q t => cases h; exact .base (.lst (s.ex _ _ q))
  | scr q t =>
    cases h
    rcases same_l s.ex q with (z | ⟨o, z⟩) | ⟨o, its, n, z, c, _⟩
    · exact .base (.lst z)
    · exact .base (.frz z)
    · exact .kList z c
  | tup q t =>
    cases h
    rcases same_t s.ex q with (z | ⟨o, z⟩) | ⟨o, its, n, z, c, _⟩
    · exact .base (.tup z)
    · exact .fTuple z
    · exact .kTuple z c
  | dct q k t => cases h; exact .base (.dK (s.ex _ _ q))
  | loc q => cases h
  | ins q k t => cases h
@[simp] def gIsi : GA := fun ds M => match ds with
  | [d, .ty n] => if n ∈ tyS then match tyD d with
    | some t => .ok (.bl (isiB t n)) M
    | none => .no
    else .no
  | _ => .no
end
end Den
namespace Den
open PySem PySem.Spec PyProof.Rows L2
section
variable {X : Cx} {E : XK} {a b c e o : Expr} {es rest : List Expr} {fa fb fc F : FE} {ft fu : FT} {fg : FA} {pos : Pos}
theorem c_isi : CallR X (.builtin "isinstance") (rA X.K E gIsi) := by
  refine callr_imp call_isi fun vs H Q ⟨μ, Hf, Fr, M, ds, rs, s, p⟩ => ?_
  unfold gIsi at p
  split at p
  · split at p
    · rename_i hn
      split at p
      · rename_i t ht
        cases rs with
        | cons r t2 =>
          cases t2 with
          | cons r2 t3 =>
            cases r2; cases t3
            exact ⟨_, _, _, _, _, rfl, .ty _, tyD_of s r ht, kit_ty (kit_tab _ (tyD_mem ht) _ hn), p.now s _ (.bl _)⟩
      · exact p.elim
    · exact p.elim
  · exact p.elim
/-! ### repr -/
def reprOk (y : PyData) : Bool := y.showable && !y.hasDict && decide (y.depth ≤ 60) && decide (y.shown.length ≤ lineD)
@[simp] def gRepr : GA := fun ds M => match ds with
  | [d] => match toPy d with
    | some y => if reprOk y = true then .ok (.str y.shown) M else .no
    | none => .no
  | _ => .no
theorem c_repr (hg : X.A.guards = some []) (hu : X.A.units + 64 < cLine) : CallR X (.builtin "repr") (rA X.K E gRepr) := by
  intro pins s σ H xs us Q I rv ⟨μ, Hf, Fr, M, ds, rs, sr, p⟩
  unfold gRepr at p
  split at p
  · rename_i d
    split at p
    · rename_i y hy
      split at p
      · rename_i ho
        unfold reprOk at ho
        simp only [Bool.and_eq_true, decide_eq_true_eq, Bool.not_eq_true'] at ho
        obtain ⟨⟨⟨h1, h2⟩, h3⟩, h4⟩ := ho
        cases rs with
        | cons r t =>
          cases t
          obtain ⟨u, rfl, ru⟩ := vals1 rv
          have fin : ∀ tk tk2, EP X pins σ Q (.str y.shown tk) { s with toks := tk2 } := fun tk tk2 => ⟨.str _, H, I.tok _, ⟨tk, rfl⟩, p.now sr _ (.str _)⟩
          have dp := r.dp sr.ex _ _ _ hy
          obtain ⟨as, rd⟩ := Dp.reads I y _ _ dp ru
          cases dp with
          | non => cases ru; exact PySem.P.repr_of_none (by have := fin s.toks (s.toks + 1); simpa [PyData.shown] using this)
          | bl b => cases ru; exact PySem.P.repr_of_bool (by have := fin s.toks (s.toks + 1); simpa [PyData.shown] using this)
          | int i =>
            obtain ⟨t, rfl⟩ := ru
            refine PySem.P.repr_of_int (by simpa [PyData.showable] using h1) (by have := fin s.toks (s.toks + 1); simpa [PyData.shown] using this)
          | str x =>
            obtain ⟨t, rfl⟩ := ru
            refine PySem.P.repr_of_str (by have := fin s.toks (s.toks + 1); simpa [PyData.shown] using this) (by have := line_le h4; simpa [PyData.shown] using this)
          | lst _ _ =>
            cases ru
            refine repr_of_reads' rd h1 (fun z => absurd z (by rw [h2]; decide)) hg (by omega) (fun _ _ e => e) (fun h' u tk hk => ?_) (line_le h4)
            exact ⟨.str _, H, I.kept (t' := tk) hk, ⟨u, rfl⟩, p.now sr _ (.str _)⟩
          | tup _ _ =>
            cases ru
            refine repr_of_reads' rd h1 (fun z => absurd z (by rw [h2]; decide)) hg (by omega) (fun _ _ e => e) (fun h' u tk hk => ?_) (line_le h4)
            exact ⟨.str _, H, I.kept (t' := tk) hk, ⟨u, rfl⟩, p.now sr _ (.str _)⟩
      · exact p.elim
    · exact p.elim
  · exact p.elim

/-! ### an item, a cut -/
def signs (z : Str) : List D := z.cps.toList.map fun c => D.str ⟨#[c]⟩
@[simp] def gIx : G2 := fun x y M => match x, y with
  | .tup xs, .int i => match atI xs i with
    | some d => .ok d M
    | none => .no
  | .str z, .int i => if z.length ≤ lineD then match atI z.cps.toList i with
    | some c => .ok (.str ⟨#[c]⟩) M
    | none => .no
    else .no
  | d, .int i => match itemsD d M with
    | some xs => match atI xs i with
      | some d => .ok d M
      | none => .no
    | none => .no
  | _, _ => .no
theorem atI_rep {K : Kf} {μ : List Addr} {H : Hp} {vs : List V} {ds : List D} {i : Int} {d : D} (r : RepAll K μ H vs ds) (h : atI ds i = some d) : ∃ v, atI vs i = some v ∧ Rep K μ H v d := by
  unfold atI at h ⊢
  rw [r.length]
  cases e : ixN ds.length i with
  | none => rw [e] at h; cases h
  | some j =>
    rw [e] at h
    exact r.at h
theorem ixr_imp {r r' : R2} (h : IxR X r) (i : ∀ x y H Q, r' x y H Q → r x y H Q) : IxR X r' := by
  intro z1 z2 pins s σ H x y v u Q I rx ry q
  exact h z1 z2 pins s σ H x y v u Q I rx ry (i _ _ _ _ q)
theorem x_ix : IxR X (rD2 X.K E gIx) := by
  refine ixr_imp ix_seq fun x y H Q h => ?_
  obtain ⟨μ, Hf, Fr, M, d1, d2, r1, r2, sr, p⟩ := h
  unfold gIx at p
  split at p
  · cases r2
    split at p
    · rename_i d hd
      cases r1 with
      | tup q t =>
        obtain ⟨w, h1, h2⟩ := atI_rep t hd
        exact .inr (.inl ⟨_, _, _, w, rfl, rfl, same_t sr.ex q, h1, p.now sr _ h2⟩)
    · exact p.elim
  · cases r1; cases r2
    split at p
    · rename_i hz
      split at p
      · rename_i cc hc
        exact .inr (.inr ⟨_, _, cc, rfl, rfl, line_le hz, hc, p.now sr _ (.str _)⟩)
      · exact p.elim
    · exact p.elim
  · cases r2
    split at p
    · rename_i xs hx
      split at p
      · rename_i d hd
        obtain ⟨a, vs, rfl, q, t⟩ := items_of sr r1 hx
        obtain ⟨w, h1, h2⟩ := atI_rep t hd
        exact .inl ⟨_, _, _, w, rfl, rfl, q, h1, p.now sr _ h2⟩
      · exact p.elim
    · exact p.elim
  · exact p.elim
theorem de_ix (ha : DE X E a fa) (hb : DE X E b fb) (hs : PlainIx b := by exact fun _ _ => rfl) : DE X E (.Subscript a b pos) (eTwo gIx fa fb) :=
  pe_imp (pe_ix x_ix ha hb hs) fun _ _ _ h => two_go h
abbrev FO := Ro → Mem → Out (Option Int)
def toF (K : Kf) (E : XK) (F : FO) : TO := fun σ H Q => ∃ μ Hf Fr ρ M, ERep K μ Hf σ ρ ∧ SR K μ Hf Fr H M ∧ Post K E (F ρ M) μ Hf Fr (fun i _ _ H' _ => Q i H')
abbrev DO (X : Cx) (E : XK) (e : Option Expr) (F : FO) : Prop := PO X e (toF X.K E F)
theorem po_imp {eo : Option Expr} {t t' : TO} (h : PO X eo t) (i : ∀ σ H Q, t' σ H Q → t σ H Q) : PO X eo t' := ⟨fun pins s σ H Q I q => h.run pins s σ H Q I (i σ H Q q)⟩
@[simp] def oNo : FO := fun _ M => .ok none M
@[simp] def oSo (F : FE) : FO := fun ρ M => (F ρ M).bind fun d M1 => match d with
  | .int i => .ok (some i) M1
  | _ => .no
theorem do_none : DO X E none oNo := po_imp po_none fun σ H Q ⟨μ, Hf, Fr, ρ, M, r, s, p⟩ => p.now s
theorem do_some (h : DE X E e F) : DO X E (some e) (oSo F) := by
  refine po_imp (po_some h) fun σ H Q ⟨μ, Hf, Fr, ρ, M, r, s, p⟩ => ?_
  refine ⟨μ, Hf, Fr, ρ, M, r, s, p.split.weak fun d μ1 Hf1 H1 M1 e1 m1 s1 p1 v r1 => ?_⟩
  split at p1
  · cases r1; exact ⟨_, rfl, p1.now s1⟩
  · exact p1.elim
def cutD {α : Type} (xs : List α) (lo hi : Option Int) : List α := (xs.drop (HT.sIx xs.length 0 lo)).take (HT.sIx xs.length xs.length hi - HT.sIx xs.length 0 lo)
theorem cut_rep {K : Kf} {μ : List Addr} {H : Hp} {vs : List V} {ds : List D} {lo hi : Option Int} (r : RepAll K μ H vs ds) : RepAll K μ H (cutV vs lo hi) (cutD ds lo hi) := by
  unfold cutV cutD
  rw [r.length]
  exact (r.drop _).take _
@[simp] def gCut (x : D) (lo hi : Option Int) : Mem → Out D := fun M => match x with
  | .str z => if z.length ≤ lineD then .ok (.str (cutS z lo hi)) M else .no
  | .tup xs => .ok (.tup (cutD xs lo hi)) M
  | d => match itemsD d M with
    | some xs => .ok (.lst (cutD xs lo hi)) M
    | none => .no
@[simp] def eCut (F : FE) (f g : FO) : FE := fun ρ M => (F ρ M).bind fun x M1 => (f ρ M1).bind fun lo M2 => (g ρ M2).bind fun hi M3 => gCut x lo hi M3
def rCut (K : Kf) (E : XK) : V → Option Int → Option Int → Hp → VK → Prop := fun x lo hi H Q => ∃ μ Hf Fr M d, Rep K μ Hf x d ∧ SR K μ Hf Fr H M ∧ Post K E (gCut d lo hi M) μ Hf Fr (kD K Q)
theorem cut_whole {α : Type} (xs : List α) (lo hi : Option Int) (h : HT.sIx xs.length 0 lo = 0 ∧ HT.sIx xs.length xs.length hi = xs.length) : cutD xs lo hi = xs := by
  unfold cutD
  rw [h.1, h.2, List.drop_zero, Nat.sub_zero, List.take_length]
theorem s_cut : SlR X (rCut X.K E) := by
  intro pins s σ H x v vl vu lo hi sl Q I rx hs pl pu h
  refine (sl_list.or (sl_tupA.or sl_str)) pins s σ H x v vl vu lo hi sl Q I rx hs pl pu ?_
  obtain ⟨μ, Hf, Fr, M, d, r, sr, p⟩ := h
  unfold gCut at p
  split at p
  · cases r
    split at p
    · rename_i hz; exact .inr (.inr ⟨_, rfl, line_le hz, p.now sr _ (.str _)⟩)
    · exact p.elim
  · cases r with
    | tup q t =>
      refine .inr (.inl ⟨_, _, rfl, same_t sr.ex q, fun hw => ?_, fun _ l hl => ?_⟩)
      · rw [t.length] at hw
        refine p.now sr _ ?_
        rw [cut_whole _ _ _ hw]
        exact .tup q t
      · exact p.new sr hl fun e => rep_tup (cut_rep t) e
  · split at p
    · rename_i xs hx
      obtain ⟨a, vs, rfl, q, t⟩ := items_of sr r hx
      exact .inl ⟨_, _, rfl, q, fun l hl => p.new sr hl fun e => rep_lst (cut_rep t) e⟩
    · exact p.elim
theorem de_cut {p2 : Pos} {lo hi : Option Expr} {fl fh : FO} (he : DE X E e F) (hl : DO X E lo fl) (hu : DO X E hi fh) : DE X E (.Subscript e (.Slice lo hi none p2) pos) (eCut F fl fh) := by
  refine pe_imp (pe_slice (s_cut (E := E)) he hl hu) fun σ H Q ⟨μ, Hf, Fr, ρ, M, r, s, p⟩ => ?_
  refine ⟨μ, Hf, Fr, ρ, M, r, s, p.split.weak fun x μ1 Hf1 H1 M1 e1 m1 s1 p1 v1 r1 => ?_⟩
  refine ⟨μ1, Hf1, Fr, ρ, M1, r.mono e1 m1, s1, p1.split.weak fun lo μ2 Hf2 H2 M2 e2 m2 s2 p2 => ?_⟩
  refine ⟨μ2, Hf2, Fr, ρ, M2, (r.mono e1 m1).mono e2 m2, s2, p2.split.weak fun hi μ3 Hf3 H3 M3 e3 m3 s3 p3 => ?_⟩
  exact ⟨μ3, Hf3, Fr, M3, x, Rep.mono e3 m3 _ _ (Rep.mono e2 m2 _ _ r1), s3, p3⟩

/-! ### methods of built-in values -/
def strs? : List D → Option (List Str)
  | [] => some []
  | .str b :: ds => (strs? ds).map (b :: ·)
  | _ => none
theorem strs_of : ∀ {ds : List D} {bs : List Str}, strs? ds = some bs → ds = bs.map D.str
  | [], bs, h => by cases h; rfl
  | .str b :: ds, bs, h => by
    unfold strs? at h
    cases e : strs? ds with
    | none => rw [e] at h; cases h
    | some cs => rw [e] at h; cases h; rw [List.map_cons, strs_of e]
  | .non :: _, _, h => by cases h
  | .int _ :: _, _, h => by cases h
  | .bl _ :: _, _, h => by cases h
  | .ty _ :: _, _, h => by cases h
  | .fn _ :: _, _, h => by cases h
  | .lst _ :: _, _, h => by cases h
  | .tup _ :: _, _, h => by cases h
  | .scr _ :: _, _, h => by cases h
  | .dct _ _ :: _, _, h => by cases h
  | .loc _ :: _, _, h => by cases h
  | .ins _ _ _ :: _, _, h => by cases h
@[simp] def gJoin : G2 := fun x y M => match x with
  | .str a => match itemsD y M with
    | some xs => match strs? xs with
      | some ys => if (ys.map (·.length)).sum + ys.length * a.length ≤ lineD then .ok (.str (Txt.join a ys)) M else .no
      | none => .no
    | none => .no
  | _ => .no
theorem de_join {apos : Pos} (ho : DE X E o fa) (he : DE X E e fb) (hs : starEach [e] X.env = [(false, eval e X.env)] := by rfl) (hbase : attributeBase o "join" X.env (eval o X.env) = eval o X.env := by rfl) (hline : (apos.endLine == pos.line) = true := by rfl) :
    DE X E (.Call (.Attribute o "join" apos) [e] [] pos) (fun ρ M => (fa ρ M).bind fun x M1 => match x with
      | .str _ => (fb ρ M1).bind fun y M2 => gJoin x y M2
      | _ => .no) := by
  refine pe_imp (pe_join ho he hs hbase hline) fun σ H Q ⟨μ, Hf, Fr, ρ, M, r, s, p⟩ => ?_
  refine ⟨μ, Hf, Fr, ρ, M, r, s, p.split.weak fun x μ1 Hf1 H1 M1 e1 m1 s1 p1 v1 r1 => ?_⟩
  split at p1
  · cases r1
    refine ⟨⟨_, rfl⟩, μ1, Hf1, Fr, ρ, M1, r.mono e1 m1, s1, p1.split.weak fun y μ2 Hf2 H2 M2 e2 m2 s2 p2 v2 r2 => ?_⟩
    unfold gJoin at p2
    dsimp only at p2
    split at p2
    · rename_i xs hx
      split at p2
      · rename_i ys hy
        split at p2
        · rename_i hz
          obtain ⟨a, vs, rfl, q, t⟩ := items_of s2 r2 hx
          rw [strs_of hy] at t
          have e3 := t.strs
          subst e3
          exact ⟨_, _, ys, rfl, rfl, .inl q, Nat.le_trans hz (by rw [lineD_eq]; decide), p2.now s2 _ (.str _)⟩
        · exact p2.elim
      · exact p2.elim
    · exact p2.elim
  · exact p1.elim
end
end Den
namespace Den
open PySem PySem.Spec PyProof.Rows L2
section
variable {X : Cx} {E : XK} {a b c e o : Expr} {es rest : List Expr} {fa fb fc F : FE} {ft fu : FT} {fg : FA} {pos : Pos}
/-! ### comparisons of numbers or of texts; in, not in -/
@[simp] def gOrd (p : Int → Int → Bool) (q : List Nat → List Nat → Bool) : G2 := fun x y M => match x, y with
  | .int i, .int j => .ok (.bl (p i j)) M
  | .str i, .str j => .ok (.bl (q i.cps.toList j.cps.toList)) M
  | _, _ => .no
theorem ord_go {p : Int → Int → Bool} {q : List Nat → List Nat → Bool} {x y : V} {H : Hp} {Q : VK} (h : rD2 X.K E (gOrd p q) x y H Q) :
    rI0 (fun i j => .bl (p i j)) x y H Q ∨ (∃ i j, x = .str i ∧ y = .str j ∧ Q (.bl (q i.cps.toList j.cps.toList)) H) := by
  obtain ⟨μ, Hf, Fr, M, d1, d2, r1, r2, s, z⟩ := h
  unfold gOrd at z
  split at z
  · cases r1; cases r2; exact .inl ⟨_, _, rfl, rfl, z.now s _ (.bl _)⟩
  · cases r1; cases r2; exact .inr ⟨_, _, rfl, rfl, z.now s _ (.bl _)⟩
  · exact z.elim
def gLt' : G2 := gOrd (fun i j => decide (i < j)) fun i j => decide (i < j)
@[simp] theorem gLt'_ap (x y : D) (M : Mem) : gLt' x y M = (gOrd (fun i j => decide (i < j)) fun i j => decide (i < j)) x y M := rfl
def gLe' : G2 := gOrd (fun i j => decide (i ≤ j)) fun i j => !decide (j < i)
@[simp] theorem gLe'_ap (x y : D) (M : Mem) : gLe' x y M = (gOrd (fun i j => decide (i ≤ j)) fun i j => !decide (j < i)) x y M := rfl
theorem o_lt : OpR X (compareOp .Lt) (rD2 X.K E gLt') := opr_imp (op_lt.or op_lt_str) fun _ _ _ _ h => ord_go h
theorem o_le : OpR X (compareOp .LtE) (rD2 X.K E gLe') := opr_imp (op_le.or op_le_str) fun _ _ _ _ h => ord_go h
@[simp] def toV : D → Option V
  | .non => some .non | .bl b => some (.bl b) | .int i => some (.int i) | .str x => some (.str x) | _ => none
@[simp] def toVs : List D → Option (List V)
  | [] => some []
  | d :: ds => match toV d, toVs ds with
    | some v, some vs => some (v :: vs)
    | _, _ => none
theorem toV_of {K : Kf} {μ : List Addr} {H : Hp} {v w : V} {d : D} (r : Rep K μ H v d) (h : toV d = some w) : v = w ∧ flatV w = true := by
  cases d <;> cases h <;> cases r <;> exact ⟨rfl, rfl⟩
theorem toVs_of {K : Kf} {μ : List Addr} {H : Hp} : ∀ {vs : List V} {ds : List D} {ws : List V}, RepAll K μ H vs ds → toVs ds = some ws → vs = ws ∧ ws.all flatV = true
  | _, [], ws, r, h => by cases r; cases h; exact ⟨rfl, rfl⟩
  | _, d :: ds, ws, r, h => by
    cases r with
    | cons r t =>
      unfold toVs at h
      cases h1 : toV d with
      | none => rw [h1] at h; cases h
      | some w =>
        cases h2 : toVs ds with
        | none => rw [h1, h2] at h; cases h
        | some us =>
          rw [h1, h2] at h; cases h
          obtain ⟨e1, f1⟩ := toV_of r h1
          obtain ⟨e2, f2⟩ := toVs_of t h2
          exact ⟨by rw [e1, e2], by rw [List.all_cons, f1, f2]; rfl⟩
@[simp] def gInS (f : Bool → Bool) : G2 := fun x y M => match x, y with
  | .str i, .str j => match i.cps.toList with
    | [c] => .ok (.bl (f (decide (c ∈ j.cps.toList)))) M
    | _ => .ok (.bl (f (!(Builtin.Str.occurrences j i 0 j.length 1).isEmpty))) M
  | d, .tup xs => match toV d, toVs xs with
    | some v, some vs => .ok (.bl (f (inV v vs))) M
    | _, _ => .no
  | d, l => match itemsD l M with
    | some xs => match toV d, toVs xs with
      | some v, some vs => .ok (.bl (f (inV v vs))) M
      | _, _ => .no
    | none => .no
theorem str_one {i : Str} {c : Nat} (h : i.cps.toList = [c]) : i = ⟨#[c]⟩ := by
  cases i with
  | mk a => cases a with
    | mk l => cases h; rfl
theorem o_in : OpR X (compareOp .In) (rD2 X.K E (gInS fun b => b)) := by
  refine opr_imp (op_in_sign.or (op_in_str.or op_in_seq)) fun x y H Q ⟨μ, Hf, Fr, M, d1, d2, r1, r2, s, p⟩ => ?_
  unfold gInS at p
  split at p
  · cases r1; cases r2
    split at p
    · rename_i c hc
      exact .inl ⟨c, _, by rw [str_one hc], rfl, p.now s _ (.bl _)⟩
    · exact .inr (.inl ⟨_, _, rfl, rfl, p.now s _ (.bl _)⟩)
  · split at p
    · rename_i v vs h1 h2
      cases r2 with
      | tup q t =>
        obtain ⟨e1, f1⟩ := toV_of r1 h1
        obtain ⟨e2, f2⟩ := toVs_of t h2
        subst e1; subst e2
        exact .inr (.inr ⟨_, _, rfl, .inr (same_t s.ex q), f1, f2, p.now s _ (.bl _)⟩)
    · exact p.elim
  · split at p
    · rename_i xs hx
      split at p
      · rename_i v vs h1 h2
        obtain ⟨a, us, rfl, q, t⟩ := items_of s r2 hx
        obtain ⟨e1, f1⟩ := toV_of r1 h1
        obtain ⟨e2, f2⟩ := toVs_of t h2
        subst e1; subst e2
        exact .inr (.inr ⟨_, _, rfl, .inl q, f1, f2, p.now s _ (.bl _)⟩)
      · exact p.elim
    · exact p.elim
theorem o_notIn : OpR X (compareOp .NotIn) (rD2 X.K E (gInS fun b => !b)) := by
  refine opr_imp (op_notIn_sign.or (op_notin_str.or op_notIn_seq)) fun x y H Q ⟨μ, Hf, Fr, M, d1, d2, r1, r2, s, p⟩ => ?_
  unfold gInS at p
  split at p
  · cases r1; cases r2
    split at p
    · rename_i c hc
      exact .inl ⟨c, _, by rw [str_one hc], rfl, p.now s _ (.bl _)⟩
    · exact .inr (.inl ⟨_, _, rfl, rfl, p.now s _ (.bl _)⟩)
  · split at p
    · rename_i v vs h1 h2
      cases r2 with
      | tup q t =>
        obtain ⟨e1, f1⟩ := toV_of r1 h1
        obtain ⟨e2, f2⟩ := toVs_of t h2
        subst e1; subst e2
        exact .inr (.inr ⟨_, _, rfl, .inr (same_t s.ex q), f1, f2, p.now s _ (.bl _)⟩)
    · exact p.elim
  · split at p
    · rename_i xs hx
      split at p
      · rename_i v vs h1 h2
        obtain ⟨a, us, rfl, q, t⟩ := items_of s r2 hx
        obtain ⟨e1, f1⟩ := toV_of r1 h1
        obtain ⟨e2, f2⟩ := toVs_of t h2
        subst e1; subst e2
        exact .inr (.inr ⟨_, _, rfl, .inl q, f1, f2, p.now s _ (.bl _)⟩)
      · exact p.elim
    · exact p.elim
/-- is True, is None -/
@[simp] def isNon : D → Bool
  | .non => true
  | _ => false
@[simp] def gIs (f : Bool → Bool) : G2 := fun x y M => match y with
  | .non => .ok (.bl (f (isNon x))) M
  | _ => .no
theorem rep_non {K : Kf} {μ : List Addr} {H : Hp} {v : V} {d : D} (r : Rep K μ H v d) : decide (v = .non) = isNon d := by
  cases r <;> simp [isNon]
theorem o_is : OpR X (compareOp .Is) (rD2 X.K E (gIs fun b => b)) := by
  refine opr_imp op_isN fun x y H Q ⟨μ, Hf, Fr, M, d1, d2, r1, r2, s, p⟩ => ?_
  unfold gIs at p
  split at p
  · cases r2; exact ⟨rfl, by rw [rep_non r1]; exact p.now s _ (.bl _)⟩
  · exact p.elim
theorem o_isnot : OpR X (compareOp .IsNot) (rD2 X.K E (gIs fun b => !b)) := by
  refine opr_imp op_notN fun x y H Q ⟨μ, Hf, Fr, M, d1, d2, r1, r2, s, p⟩ => ?_
  unfold gIs at p
  split at p
  · cases r2; exact ⟨rfl, by rw [rep_non r1]; exact p.now s _ (.bl _)⟩
  · exact p.elim

/-! ### targets -/
abbrev TgD := D → Ro → Option Ro
def tgF (K : Kf) (g : TgD) (sl : List Nat) : TG := fun v σ H Q => ∃ μ Hf ρ d ρ', Same Hf H ∧ ERep K μ Hf σ ρ ∧ Rep K μ Hf v d ∧ g d ρ = some ρ' ∧
  ∀ σ', ERep K μ Hf σ' ρ' → σ'.length = σ.length → (∀ j, j ∉ sl → σ'[j]? = σ[j]?) → Q σ' H
abbrev DG (X : Cx) (tg : Expr) (g : TgD) (sl : List Nat) : Prop := PG X tg (tgF X.K g sl)
theorem pg_imp {tg : Expr} {t t' : TG} (h : PG X tg t) (i : ∀ v σ H Q, t' v σ H Q → t v σ H Q) : PG X tg t' := ⟨fun pins s σ H v u Q I r q => h.run pins s σ H v u Q I r (i v σ H Q q)⟩
@[simp] def gNm (i : Nat) : TgD := fun d ρ => some (ρ.set i (some d))
theorem dg_name {i : Nat} {tg : Expr} (h : PG X tg (gName i)) : DG X tg (gNm i) [i] := by
  refine pg_imp h fun v σ H Q ⟨μ, Hf, ρ, d, ρ', e, r, rv, hg, k⟩ => ?_
  cases hg
  exact k _ (r.put i rv) (by rw [List.length_set]) fun j hj => by rw [List.getElem?_set_ne (fun z => hj (by simp [z]))]
/-- several names at once -/
@[simp] def gNms : List Nat → List D → Ro → Option Ro
  | [], [], ρ => some ρ
  | i :: is, d :: ds, ρ => gNms is ds (ρ.set i (some d))
  | _, _, _ => none
@[simp] def gTp (is : List Nat) : TgD := fun d ρ => match d with
  | .tup xs => gNms is xs ρ
  | _ => none
inductive DGs (X : Cx) : List Expr → List Nat → Prop
  | nil : DGs X [] []
  | cons {e : Expr} {es : List Expr} {i : Nat} {is : List Nat} : PG X e (gName i) → (assignEach (e :: es) X.env).map (·.2) = assign e X.env :: (assignEach es X.env).map (·.2) → DGs X es is → DGs X (e :: es) (i :: is)
def gAllT : List Nat → TGs
  | [] => gNil
  | i :: is => gCons (gName i) (gAllT is)
theorem DGs.pgs : ∀ {es : List Expr} {is : List Nat}, DGs X es is → PGs X es (gAllT is)
  | _, _, .nil => pgs_nil
  | _, _, .cons h hs t => pgs_cons h t.pgs hs
theorem gNms_go {K : Kf} {μ : List Addr} {Hf H : Hp} : ∀ (is : List Nat) {ds : List D} {vs : List V} {ρ ρ' : Ro} {σ : L2.St} {Q : L2.St → Hp → Prop}, RepAll K μ Hf vs ds → ERep K μ Hf σ ρ → gNms is ds ρ = some ρ' →
    (∀ σ', ERep K μ Hf σ' ρ' → σ'.length = σ.length → (∀ j, j ∉ is → σ'[j]? = σ[j]?) → Q σ' H) → gAllT is vs σ H Q
  | [], [], _, ρ, ρ', σ, Q, rv, r, h, k => by
    cases rv; cases h
    exact ⟨rfl, k σ r rfl fun _ _ => rfl⟩
  | i :: is, d :: ds, _, ρ, ρ', σ, Q, rv, r, h, k => by
    cases rv with
    | cons r1 rt =>
      refine ⟨_, _, rfl, ?_⟩
      refine gNms_go is rt (r.put i r1) h fun σ' r' hl hj => ?_
      refine k σ' r' (by rw [hl, List.length_set]) fun j hn => ?_
      rw [hj j fun z => hn (List.mem_cons_of_mem _ z), List.getElem?_set_ne fun z => hn (by simp [z])]
  | [], _ :: _, _, _, _, _, _, _, _, h, _ => by cases h
  | _ :: _, [], _, _, _, _, _, _, _, h, _ => by cases h
theorem gNms_len : ∀ {is : List Nat} {ds : List D} {ρ ρ' : Ro}, gNms is ds ρ = some ρ' → ds.length = is.length
  | [], [], _, _, _ => rfl
  | _ :: is, _ :: ds, ρ, ρ', h => congrArg Nat.succ (gNms_len (is := is) h)
  | [], _ :: _, _, _, h => by cases h
  | _ :: _, [], _, _, h => by cases h
theorem dg_tup {k : Nat} {is : List Nat} (hc : X.calm = true) (h : DGs X es is) (hn : (assignEach es X.env).length = is.length := by rfl) (hst : (assignEach es X.env).findIdx? (·.1) = none := by rfl) : DG X (.Tuple es k pos) (gTp is) is := by
  refine pg_imp (pg_tup hc h.pgs hn hst) fun v σ H Q ⟨μ, Hf, ρ, d, ρ', e, r, rv, hg, k⟩ => ?_
  unfold gTp at hg
  split at hg
  · cases rv with
    | tup q t => exact ⟨_, _, rfl, same_t e q, by rw [t.length]; exact gNms_len hg, gNms_go is t r hg k⟩
  · cases hg

/-! ### what is walked -/
def WalkD (K : Kf) (μ : List Addr) (Hf : Hp) (J : It) (xs : List D) : Prop :=
  (∀ i H, i < xs.length → Same Hf H → J.go i H) ∧ (∀ H, Same Hf H → J.stop xs.length H) ∧
    ∀ i μ1 Hf1 Fr H M v H', i < xs.length → Same Hf Hf1 → μ <+: μ1 → SR K μ1 Hf1 Fr H M → J.yld i H v H' → ∃ Hf2 d, Same Hf1 Hf2 ∧ SR K μ1 Hf2 Fr H' M ∧ xs[i]? = some d ∧ Rep K μ1 Hf2 v d
abbrev FI := Ro → Mem → Out (List D)
abbrev kI (K : Kf) (R : It → Hp → Prop) : List D → List Addr → Hp → Hp → Mem → Prop := fun xs μ' Hf' H' _ => ∀ J, WalkD K μ' Hf' J xs → R J H'
def tiF (K : Kf) (E : XK) (F : FI) : TI := fun σ H R => ∃ μ Hf Fr ρ M, ERep K μ Hf σ ρ ∧ SR K μ Hf Fr H M ∧ Post K E (F ρ M) μ Hf Fr (kI K R)
abbrev DI (X : Cx) (E : XK) (tg e : Expr) (F : FI) : Prop := PI X tg e (tiF X.K E F)
theorem pi_imp {tg : Expr} {t t' : TI} (h : PI X tg e t) (i : ∀ σ H Q, t' σ H Q → t σ H Q) : PI X tg e t' := ⟨fun pins s σ H R I q => h.run pins s σ H R I (i σ H R q)⟩
theorem pi_or {tg : Expr} {t t' : TI} (h : PI X tg e t) (h' : PI X tg e t') : PI X tg e (fun σ H R => t σ H R ∨ t' σ H R) := ⟨fun pins s σ H R I q => q.elim (h.run pins s σ H R I) (h'.run pins s σ H R I)⟩
def rangeD (lo hi : Int) : List D := (List.range (hi - lo).toNat).map fun (i : Nat) => D.int (lo + (i : Int))
theorem rangeD_len (lo hi : Int) : (rangeD lo hi).length = (hi - lo).toNat := by unfold rangeD; simp
theorem walk_rg {K : Kf} {μ : List Addr} {Hf : Hp} {lo hi : Int} {n : Nat} (hn : n = (hi - lo).toNat) : WalkD K μ Hf (Itr lo n) (rangeD lo hi) := by
  subst hn
  refine ⟨fun i H hi _ => by rw [rangeD_len] at hi; exact hi, fun H _ => by rw [rangeD_len]; exact Nat.le_refl _, fun i μ1 Hf1 Fr H M v H' hi e m s y => ?_⟩
  obtain ⟨rfl, rfl⟩ := y
  rw [rangeD_len] at hi
  exact ⟨Hf1, .int (lo + i), Same.refl _, s, by unfold rangeD; simp [hi], .int _⟩
@[simp] def gRg1 : List D → Mem → Out (List D) := fun ds M => match ds with
  | [.int n] => if -1000000000 ≤ n ∧ n ≤ 1000000000 then .ok (rangeD 0 n) M else .no
  | _ => .no
@[simp] def gRg2 : List D → Mem → Out (List D) := fun ds M => match ds with
  | [.int m, .int n] => if (-1000000000 ≤ m ∧ m ≤ 1000000000) ∧ -1000000000 ≤ n ∧ n ≤ 1000000000 then .ok (rangeD m n) M else .no
  | _ => .no
@[simp] def iRg1 (fg : FA) : FI := fun ρ M => (fg ρ M).bind gRg1
@[simp] def iRg2 (fg : FA) : FI := fun ρ M => (fg ρ M).bind gRg2
theorem di_range1 {tg : Expr} {p : Pos} (hg : Gl X "range") (hm : X.mg "range" = none) (ha : DA X E [a] fg) (hs : starEach [a] X.env = [(false, eval a X.env)] := by rfl) : DI X E tg (.Call (.Name "range" p) [a] [] pos) (iRg1 fg) := by
  refine pi_imp (pi_range1 hg hm ha hs) fun σ H Q ⟨μ, Hf, Fr, ρ, M, r, s, p⟩ => ?_
  refine ⟨μ, Hf, Fr, ρ, M, r, s, p.split.weak fun ds μ1 Hf1 H1 M1 e1 m1 s1 p1 vs rs => ?_⟩
  unfold gRg1 at p1
  split at p1
  · split at p1
    · rename_i n hz
      cases rs with
      | cons r1 t =>
        cases r1; cases t
        exact ⟨_, rfl, by omega, by omega, p1.now s1 _ (walk_rg (by rw [Int.sub_zero]))⟩
    · exact p1.elim
  · exact p1.elim
theorem di_range2 {tg : Expr} {p : Pos} (hg : Gl X "range") (hm : X.mg "range" = none) (ha : DA X E [a, b] fg) (hs : starEach [a, b] X.env = [(false, eval a X.env), (false, eval b X.env)] := by rfl) (hs2 : starEach [b] X.env = [(false, eval b X.env)] := by rfl) :
    DI X E tg (.Call (.Name "range" p) [a, b] [] pos) (iRg2 fg) := by
  refine pi_imp (pi_range2 hg hm ha hs hs2) fun σ H Q ⟨μ, Hf, Fr, ρ, M, r, s, p⟩ => ?_
  refine ⟨μ, Hf, Fr, ρ, M, r, s, p.split.weak fun ds μ1 Hf1 H1 M1 e1 m1 s1 p1 vs rs => ?_⟩
  unfold gRg2 at p1
  split at p1
  · split at p1
    · rename_i m n hz
      cases rs with
      | cons r1 t => cases t with
        | cons r2 t =>
          cases r1; cases r2; cases t
          exact ⟨_, _, rfl, ⟨by omega, by omega, by omega, by omega⟩, p1.now s1 _ (walk_rg rfl)⟩
    · exact p1.elim
  · exact p1.elim
/-- a list, a tuple, a text -/
@[simp] def itD (d : D) (M : Mem) : Out (List D) := match d with
  | .str z => .ok (signs z) M
  | .tup xs => .ok xs M
  | .lst xs => .ok xs M
  | .scr xs => .ok xs M
  | _ => .no
@[simp] def iVal (F : FE) : FI := fun ρ M => (F ρ M).bind itD
theorem walk_sl {K : Kf} {μ : List Addr} {Hf : Hp} {a : Addr} {vs : List V} {xs : List D} (q : SqL K Hf a vs) (t : RepAll K μ Hf vs xs) : WalkD K μ Hf (Itl K a) xs := by
  refine ⟨fun i H hi e => ?_, fun H e => ⟨vs, same_l e q, by rw [t.length]; exact Nat.le_refl _⟩, fun i μ1 Hf1 Fr H M v H' hi e m s y => ?_⟩
  · obtain ⟨v, h1, _⟩ := t.at (i := i) (d := xs[i]) (by simp [hi])
    exact ⟨vs, v, same_l e q, h1⟩
  · obtain ⟨rfl, y⟩ := y
    have h := y vs (same_l (e.trans s.ex) q)
    obtain ⟨d, h1, h2⟩ := t.atV h
    exact ⟨Hf1, d, Same.refl _, s, h1, Rep.mono e m _ _ h2⟩
theorem walk_st {K : Kf} {μ : List Addr} {Hf : Hp} {a : Addr} {vs : List V} {xs : List D} (q : SqT K Hf a vs) (t : RepAll K μ Hf vs xs) : WalkD K μ Hf (Itt K a) xs := by
  refine ⟨fun i H hi e => ?_, fun H e => ⟨vs, same_t e q, by rw [t.length]; exact Nat.le_refl _⟩, fun i μ1 Hf1 Fr H M v H' hi e m s y => ?_⟩
  · obtain ⟨v, h1, _⟩ := t.at (i := i) (d := xs[i]) (by simp [hi])
    exact ⟨vs, v, same_t e q, h1⟩
  · obtain ⟨rfl, y⟩ := y
    have h := y vs (same_t (e.trans s.ex) q)
    obtain ⟨d, h1, h2⟩ := t.atV h
    exact ⟨Hf1, d, Same.refl _, s, h1, Rep.mono e m _ _ h2⟩
theorem walk_ss {K : Kf} {μ : List Addr} {Hf : Hp} {z : Str} : WalkD K μ Hf (Its z) (signs z) := by
  have hl : (signs z).length = z.cps.size := by unfold signs; simp
  refine ⟨fun i H hi e => by rw [hl] at hi; exact hi, fun H e => by rw [hl]; exact Nat.le_refl _, fun i μ1 Hf1 Fr H M v H' hi e m s y => ?_⟩
  obtain ⟨rfl, c, hc, rfl⟩ := y
  refine ⟨Hf1, .str ⟨#[c]⟩, Same.refl _, s, ?_, .str _⟩
  unfold signs
  rw [List.getElem?_map, Array.getElem?_toList, hc]
  rfl
theorem di_val {tg : Expr} (h : DE X E e F) : DI X E tg e (iVal F) := by
  refine pi_imp (pi_or (pi_list h) (pi_or (pi_tup h) (pi_str h))) fun σ H Q ⟨μ, Hf, Fr, ρ, M, r, s, p⟩ => ?_
  have p' := p.split
  cases hF : F ρ M with
  | no => rw [hF] at p'; exact p'.elim
  | exc x M1 =>
    rw [hF] at p'
    exact .inl ⟨μ, Hf, Fr, ρ, M, r, s, by rw [hF]; exact p'⟩
  | ok d M1 =>
    rw [hF] at p'
    have up : ∀ {k : D → List Addr → Hp → Hp → Mem → Prop}, Post X.K E (.ok d M1) μ Hf Fr k → Post X.K E (F ρ M) μ Hf Fr k := fun q => by rw [hF]; exact q
    cases d with
    | str z => exact .inr (.inr ⟨μ, Hf, Fr, ρ, M, r, s, up fun H' Hf' μ' e m s' v rv => by cases rv; exact ⟨_, rfl, (p' H' Hf' μ' e m s').now s' _ walk_ss⟩⟩)
    | tup xs =>
      refine .inr (.inl ⟨μ, Hf, Fr, ρ, M, r, s, up fun H' Hf' μ' e m s' v rv => ?_⟩)
      cases rv with
      | tup q t => exact ⟨_, rfl, ⟨_, same_t s'.ex q⟩, (p' H' Hf' μ' e m s').now s' _ (walk_st q t)⟩
    | lst xs =>
      refine .inl ⟨μ, Hf, Fr, ρ, M, r, s, up fun H' Hf' μ' e m s' v rv => ?_⟩
      cases rv with
      | lst q t => exact ⟨_, rfl, ⟨_, SqL.of (s'.ex _ _ q)⟩, (p' H' Hf' μ' e m s').now s' _ (walk_sl (SqL.of q) t)⟩
    | scr xs =>
      refine .inl ⟨μ, Hf, Fr, ρ, M, r, s, up fun H' Hf' μ' e m s' v rv => ?_⟩
      cases rv with
      | scr q t => exact ⟨_, rfl, ⟨_, same_l s'.ex q⟩, (p' H' Hf' μ' e m s').now s' _ (walk_sl q t)⟩
    | _ => exact .inl ⟨μ, Hf, Fr, ρ, M, r, s, up fun H' Hf' μ' e m s' v rv => (p' H' Hf' μ' e m s').elim⟩
end
end Den
namespace Den
open PySem PySem.Spec PyProof.Rows L2
section
variable {X : Cx} {E : XK} {a b c e o : Expr} {es rest : List Expr} {fa fb fc F : FE} {ft fu : FT} {fg : FA} {pos : Pos} {st : Stmt} {sts : List Stmt} {fs gs : FS} {fi : FI}
/-! ### statements -/
@[simp] def sNx : FS := fun ρ M => .ok (.nx ρ) M
/-- what comes behind a statement that goes on -/
@[simp] def Out.then (o : Out Fl) (g : FS) : Out Fl := o.bind fun f M => match f with
  | .nx ρ => g ρ M
  | f => .ok f M
@[simp] def sSeq (f g : FS) : FS := fun ρ M => (f ρ M).then g
theorem ds_nil : DSs X E [] sNx := pss_imp pss_nil fun N σ H ⟨μ, Hf, Fr, ρ, M, r, s, p⟩ => p.now s σ r
theorem ds_cons (h1 : DS X E st fs) (h2 : DSs X E sts gs) : DSs X E (st :: sts) (sSeq fs gs) := by
  refine pss_imp (pss_cons h1 h2) fun N σ H ⟨μ, Hf, Fr, ρ, M, r, s, p⟩ => ?_
  refine ⟨μ, Hf, Fr, ρ, M, r, s, p.split.weak fun f μ1 Hf1 H1 M1 e1 m1 s1 p1 => ?_⟩
  cases f with
  | nx ρ1 => exact fun σ1 r1 => ⟨μ1, Hf1, Fr, ρ1, M1, r1, s1, p1⟩
  | rt d => exact fun v rv => p1.now s1 v rv
  | bk ρ1 => exact fun σ1 r1 => p1.now s1 σ1 r1
  | ct ρ1 => exact fun σ1 r1 => p1.now s1 σ1 r1
theorem ds_one (h1 : DS X E st fs) : DSs X E [st] fs := pss_imp (pss_one h1) fun N σ H h => h
theorem ds_pass : DS X E (.Pass pos) sNx := ps_imp ps_pass fun N σ H ⟨μ, Hf, Fr, ρ, M, r, s, p⟩ => p.now s σ r
theorem ds_break : DS X E (.Break pos) (fun ρ M => .ok (.bk ρ) M) := ps_imp ps_break fun N σ H ⟨μ, Hf, Fr, ρ, M, r, s, p⟩ => p.now s σ r
theorem ds_cont : DS X E (.Continue pos) (fun ρ M => .ok (.ct ρ) M) := ps_imp ps_continue fun N σ H ⟨μ, Hf, Fr, ρ, M, r, s, p⟩ => p.now s σ r
@[simp] def sExpr (F : FE) : FS := fun ρ M => (F ρ M).bind fun _ M1 => .ok (.nx ρ) M1
theorem ds_expr (he : DE X E e F) (hs : swapsWith e none pos.line X.env = pure false := by rfl) : DS X E (.Expr e pos) (sExpr F) := by
  refine ps_imp (ps_expr he hs) fun N σ H ⟨μ, Hf, Fr, ρ, M, r, s, p⟩ => ?_
  exact ⟨μ, Hf, Fr, ρ, M, r, s, p.split.weak fun d μ1 Hf1 H1 M1 e1 m1 s1 p1 v rv => p1.now s1 σ (r.mono e1 m1)⟩
@[simp] def sRet (F : FE) : FS := fun ρ M => (F ρ M).bind fun d M1 => .ok (.rt d) M1
theorem ds_ret (he : DE X E e F) : DS X E (.Return (some e) pos) (sRet F) := by
  refine ps_imp (ps_ret he) fun N σ H ⟨μ, Hf, Fr, ρ, M, r, s, p⟩ => ?_
  exact ⟨μ, Hf, Fr, ρ, M, r, s, p.split.weak fun d μ1 Hf1 H1 M1 e1 m1 s1 p1 v rv => p1.now s1 v rv⟩
theorem ds_retN : DS X E (.Return none pos) (fun _ M => .ok (.rt .non) M) := ps_imp ps_retN fun N σ H ⟨μ, Hf, Fr, ρ, M, r, s, p⟩ => p.now s _ .non
@[simp] def sIf (t : FT) (f g : FS) : FS := fun ρ M => (t ρ M).bind fun k M1 => if k = true then f ρ M1 else g ρ M1
theorem ds_if {p q : List Stmt} (hc : DT X E c ft) (ha : DSs X E p fs) (hb : DSs X E q gs) : DS X E (.If c p q pos) (sIf ft fs gs) := by
  refine ps_imp (ps_if hc ha hb) fun N σ H ⟨μ, Hf, Fr, ρ, M, r, s, p⟩ => ?_
  refine ⟨μ, Hf, Fr, ρ, M, r, s, p.split.weak fun k μ1 Hf1 H1 M1 e1 m1 s1 p1 => ?_⟩
  cases k with
  | true => exact iteT ⟨μ1, Hf1, Fr, ρ, M1, r.mono e1 m1, s1, p1⟩
  | false => exact iteF ⟨μ1, Hf1, Fr, ρ, M1, r.mono e1 m1, s1, p1⟩
@[simp] def sSet (i : Nat) (F : FE) : FS := fun ρ M => (F ρ M).bind fun d M1 => .ok (.nx (ρ.set i (some d))) M1
theorem set_go {i : Nat} {N : Ends} {σ : L2.St} {H : Hp} (h : tsF X.K E (sSet i F) N σ H) : tAsg (teF X.K E F) (gName i) N σ H := by
  obtain ⟨μ, Hf, Fr, ρ, M, r, s, p⟩ := h
  exact ⟨μ, Hf, Fr, ρ, M, r, s, p.split.weak fun d μ1 Hf1 H1 M1 e1 m1 s1 p1 v rv => p1.now s1 _ ((r.mono e1 m1).put i rv)⟩
theorem ds_set {i : Nat} (h : PS X st (tAsg (teF X.K E F) (gName i))) : DS X E st (sSet i F) := ps_imp h fun N σ H => set_go
/-- several names by a tuple, in general -/
@[simp] def sAsg (g : TgD) (F : FE) : FS := fun ρ M => (F ρ M).bind fun d M1 => match g d ρ with
  | some ρ' => .ok (.nx ρ') M1
  | none => .no
theorem ds_asg {tg : Expr} {g : TgD} {sl : List Nat} (he : DE X E e F) (hg : DG X tg g sl) (hs : swapsWithSole [tg] e pos.line X.env = pure false := by rfl) (hw : swappedStores [tg] e X.env = pure none := by rfl)
    (h1 : (assignEach [tg] X.env).map (·.2) = [assign tg X.env] := by rfl) : DS X E (.Assign [tg] e pos) (sAsg g F) := by
  refine ps_imp (ps_asg he hg hs hw h1) fun N σ H ⟨μ, Hf, Fr, ρ, M, r, s, p⟩ => ?_
  refine ⟨μ, Hf, Fr, ρ, M, r, s, p.split.weak fun d μ1 Hf1 H1 M1 e1 m1 s1 p1 v rv => ?_⟩
  split at p1
  · rename_i ρ' hg
    exact ⟨μ1, Hf1, ρ, d, ρ', s1.ex, r.mono e1 m1, rv, hg, fun σ' r' _ _ => p1.now s1 σ' r'⟩
  · exact p1.elim
/-- two names at once, both written -/
@[simp] def sPar (i j : Nat) (fg : FA) : FS := fun ρ M => (fg ρ M).bind fun ds M1 => match ds with
  | [x, y] => .ok (.nx ((ρ.set i (some x)).set j (some y))) M1
  | _ => .no
theorem ds_par {i j : Nat} (h : PS X st (tPar i j (taF X.K E fg))) : DS X E st (sPar i j fg) := by
  refine ps_imp h fun N σ H ⟨μ, Hf, Fr, ρ, M, r, s, p⟩ => ?_
  refine ⟨μ, Hf, Fr, ρ, M, r, s, p.split.weak fun ds μ1 Hf1 H1 M1 e1 m1 s1 p1 vs rs => ?_⟩
  split at p1
  · cases rs with
    | cons r1 t => cases t with
      | cons r2 t => cases t; exact ⟨_, _, rfl, p1.now s1 _ (((r.mono e1 m1).put i r1).put j r2)⟩
  · exact p1.elim
/-- o[i] = e on a list that may change -/
@[simp] def setM (o i d : D) (ρ : Ro) (M : Mem) : Out Fl := match o, i with
  | .loc n, .int k => match M[n]? with
    | some (some xs) => match ixN xs.length k with
      | some j => .ok (.nx ρ) (M.set n (some (xs.set j d)))
      | none => .no
    | _ => .no
  | _, _ => .no
@[simp] def sSetIx (F fo fj : FE) : FS := fun ρ M => (F ρ M).bind fun d M1 => (fo ρ M1).bind fun o M2 => (fj ρ M2).bind fun i M3 => setM o i d ρ M3
theorem ds_setIx {oe ie : Expr} {fo fj : FE} {p1 : Pos} (he : DE X E e F) (ho : DE X E oe fo) (hi : DE X E ie fj) (hs : swapsWithSole [.Subscript oe ie p1] e pos.line X.env = pure false := by rfl) (hw : swappedStores [.Subscript oe ie p1] e X.env = pure none := by rfl)
    (h1 : (assignEach [.Subscript oe ie p1] X.env).map (·.2) = [assign (.Subscript oe ie p1) X.env] := by rfl)
    (ha : ∀ v, assign (.Subscript oe ie p1) X.env v = (do
      let ov ← holding [v] (eval oe X.env)
      let iv ← holding [v, ov] (eval ie X.env)
      standAt p1
      holding [v, ov, iv] (setItem ov iv v)
      release [v, ov, iv] []) := by intro _; rfl) : DS X E (.Assign [.Subscript oe ie p1] e pos) (sSetIx F fo fj) := by
  refine ps_imp (ps_asg he (pg_sub ho hi set_list ha) hs hw h1) fun N σ H ⟨μ, Hf, Fr, ρ, M, r, s, p⟩ => ?_
  refine ⟨μ, Hf, Fr, ρ, M, r, s, p.split.weak fun d μ1 Hf1 H1 M1 e1 m1 s1 p1 v rv => ?_⟩
  refine ⟨μ1, Hf1, Fr, ρ, M1, r.mono e1 m1, s1, p1.split.weak fun od μ2 Hf2 H2 M2 e2 m2 s2 p2 ov ro => ?_⟩
  refine ⟨μ2, Hf2, Fr, ρ, M2, (r.mono e1 m1).mono e2 m2, s2, p2.split.weak fun id μ3 Hf3 H3 M3 e3 m3 s3 p3 iv ri => ?_⟩
  unfold setM at p3
  split at p3
  · split at p3
    · rename_i xs hM
      split at p3
      · rename_i j hj
        cases ri
        have ro' := Rep.mono e3 m3 _ _ ro
        cases ro' with
        | loc q =>
          obtain ⟨a, us, h1, h2, h3, h4, h5⟩ := s3.cell _ _ hM
          rw [q] at h1; cases h1
          have rd : RepAll X.K μ3 Hf3 (us.set j v) (xs.set j d) := h5.set j (Rep.mono e3 m3 _ _ (Rep.mono e2 m2 _ _ rv))
          exact ⟨_, _, _, j, rfl, rfl, h4, by rw [h5.length]; exact hj, p3.now (s3.turn hM q rd) σ (((r.mono e1 m1).mono e2 m2).mono e3 m3)⟩
      · exact p3.elim
    · exact p3.elim
  · exact p3.elim

/-! ### for -/
def loopD (g : TgD) (body : FS) : List D → FS
  | [], ρ, M => .ok (.nx ρ) M
  | d :: ds, ρ, M => match g d ρ with
    | some ρ1 => (body ρ1 M).bind fun f M1 => match f with
      | .nx ρ2 => loopD g body ds ρ2 M1
      | .ct ρ2 => loopD g body ds ρ2 M1
      | .bk ρ2 => .ok (.nx ρ2) M1
      | .rt d => .ok (.rt d) M1
    | none => .no
@[simp] def sFor (fi : FI) (g : TgD) (body : FS) : FS := fun ρ M => (fi ρ M).bind fun xs M1 => loopD g body xs ρ M1
theorem for_go {J : It} {g : TgD} {sl : List Nat} {xs : List D} {μ : List Addr} {Hf Fr H : Hp} {N : Ends} {σ : L2.St} {ρ : Ro} {M : Mem} (w : WalkD X.K μ Hf J xs) (r : ERep X.K μ Hf σ ρ) (s : SR X.K μ Hf Fr H M)
    (p : Post X.K E (loopD g fs xs ρ M) μ Hf Fr (kS X.K N)) :
    ∃ W : Nat → Nat → L2.St → Hp → Prop, (∃ m, W 0 m σ H) ∧ ∀ i m σ H, W i m σ H →
      (J.stop i H ∧ N.nx σ H) ∨ (J.go i H ∧ ∃ Nx : L2.St → Hp → Prop, (∀ σ' H', Nx σ' H' → ∃ m', m' < m ∧ W (i + 1) m' σ' H') ∧ ∀ x H', J.yld i H x H' → tgF X.K g sl x σ H' fun σ2 H2 => tsF X.K E fs { N with nx := Nx, ct := Nx, bk := N.nx } σ2 H2) := by
  obtain ⟨w1, w2, w3⟩ := w
  refine ⟨fun i m σ H => m = xs.length - i ∧ i ≤ xs.length ∧ ∃ μ1 Hf1 ρ1 M1, Same Hf Hf1 ∧ μ <+: μ1 ∧ ERep X.K μ1 Hf1 σ ρ1 ∧ SR X.K μ1 Hf1 Fr H M1 ∧ Post X.K E (loopD g fs (xs.drop i) ρ1 M1) μ1 Hf1 Fr (kS X.K N),
    ⟨_, rfl, Nat.zero_le _, μ, Hf, ρ, M, Same.refl _, List.prefix_refl _, r, s, p⟩, ?_⟩
  rintro i m σ1 H1 ⟨rfl, hi, μ1, Hf1, ρ1, M1, e1, m1, r1, s1, p1⟩
  by_cases hlt : i < xs.length
  · refine .inr ⟨w1 i H1 hlt (e1.trans s1.ex), fun σ' H' => ∃ μ2 Hf2 ρ2 M2, Same Hf Hf2 ∧ μ <+: μ2 ∧ ERep X.K μ2 Hf2 σ' ρ2 ∧ SR X.K μ2 Hf2 Fr H' M2 ∧ Post X.K E (loopD g fs (xs.drop (i + 1)) ρ2 M2) μ2 Hf2 Fr (kS X.K N), fun σ' H' q => ⟨xs.length - (i + 1), by omega, rfl, hlt, q⟩, fun x H' y => ?_⟩
    obtain ⟨Hf2, d, e2, s2, hd, rx⟩ := w3 i μ1 Hf1 Fr H1 M1 x H' hlt e1 m1 s1 y
    have hx : xs[i] = d := by rw [List.getElem?_eq_getElem hlt] at hd; exact Option.some.inj hd
    rw [List.drop_eq_getElem_cons hlt, hx] at p1
    unfold loopD at p1
    split at p1
    · rename_i ρ' hg
      refine ⟨μ1, Hf2, ρ1, d, ρ', s2.ex, r1.mono e2 (List.prefix_refl _), rx, hg, fun σ' r' _ _ => ?_⟩
      refine ⟨μ1, Hf2, Fr, ρ', M1, r', s2, (p1.later e2 (List.prefix_refl _)).split.weak fun f μ3 Hf3 H3 M3 e3 m3 s3 p3 => ?_⟩
      cases f with
      | nx ρ3 => exact fun σ3 r3 => ⟨μ3, Hf3, ρ3, M3, (e1.trans e2).trans e3, m1.trans m3, r3, s3, p3⟩
      | ct ρ3 => exact fun σ3 r3 => ⟨μ3, Hf3, ρ3, M3, (e1.trans e2).trans e3, m1.trans m3, r3, s3, p3⟩
      | bk ρ3 => exact fun σ3 r3 => p3.now s3 σ3 r3
      | rt d3 => exact fun v3 r3 => p3.now s3 v3 r3
    · exact p1.elim
  · have e : i = xs.length := by omega
    subst e
    rw [List.drop_length] at p1
    exact .inl ⟨w2 H1 (e1.trans s1.ex), p1.now s1 σ1 r1⟩
theorem ds_for {tg iter : Expr} {body : List Stmt} {g : TgD} {sl : List Nat} (hp : PassesOwn (model X.prog X.w) X.A X.env X.xe) (hc : X.calm = true) (hi : DI X E tg iter fi) (hg : DG X tg g sl) (hb : DSs X E body fs)
    (hs : ∀ x, foldedSetIterable iter X.env x = pure x := by intro _; rfl) : DS X E (.For tg iter body [] pos) (sFor fi g fs) := by
  refine ps_imp (ps_for hp hc hi hg hb hs) fun N σ H ⟨μ, Hf, Fr, ρ, M, r, s, p⟩ => ?_
  exact ⟨μ, Hf, Fr, ρ, M, r, s, p.split.weak fun xs μ1 Hf1 H1 M1 e1 m1 s1 p1 J w => for_go w (r.mono e1 m1) s1 p1⟩

/-! ### comprehensions -/
abbrev EN : XK := fun _ _ _ => False
@[simp] def Out.noX {α : Type} (o : Out α) : Out α := match o with
  | .exc _ _ => .no
  | o => o
theorem post_noX {α β : Type} {K : Kf} {o : Out α} {f : α → Mem → Out β} {μ : List Addr} {Hf Fr : Hp} {k : β → List Addr → Hp → Hp → Mem → Prop} (p : Post K E (o.noX.bind f) μ Hf Fr k) : Post K EN o μ Hf Fr (fun a μ1 Hf1 _ M1 => Post K E (f a M1) μ1 Hf1 Fr k) := by
  cases o with
  | ok a M => exact p.split
  | exc x M => exact p.elim
  | no => exact p
def lcD (g : TgD) (t : FT) (f : FE) (ρ : Ro) : List D → Mem → Out (List D)
  | [], M => .ok [] M
  | d :: ds, M => match g d ρ with
    | some ρ1 => (t ρ1 M).noX.bind fun k M1 => if k = true then (f ρ1 M1).noX.bind fun y M2 => (lcD g t f ρ ds M2).bind fun ys M3 => .ok (y :: ys) M3 else lcD g t f ρ ds M1
    | none => .no
@[simp] def eLc (fi : FI) (g : TgD) (vs : List Nat) (t : FT) (f : FE) : FE := fun ρ M => (fi ρ M).bind fun xs M1 => if xs.length ≤ lineD then (lcD g t f (wipeD ρ vs) xs M1).bind fun ys M2 => .ok (.lst ys) M2 else .no
/-- the list under way is set aside -/
theorem SR.hide {K : Kf} {μ : List Addr} {Hf Fr H : Hp} {M : Mem} {q : Addr} {o : HO} (s : SR K μ Hf Fr H M) (hq : H q = none) : SR K μ Hf (upd Fr q o) (upd H q o) M := by
  have hf : Hf q = none := s.ex.free hq
  refine ⟨fun b u e => by rw [upd_ne (ne_of_none e hf)]; exact s.ex b u e, fun b u e => ?_, fun b u e => ?_, s.len, s.nd, fun n ds e => ?_, fun b hb => ?_⟩
  · by_cases hb : b = q
    · subst hb; rw [upd_same] at e ⊢; exact e
    · rw [upd_ne hb] at e ⊢; exact s.fr b u e
  · by_cases hb : b = q
    · subst hb; exact hf
    · rw [upd_ne hb] at e; exact s.dis b u e
  · obtain ⟨a, vs, h1, h2, h3, h4, h5⟩ := s.cell n ds e
    have ha : a ≠ q := ne_of_none h4 hq
    exact ⟨a, vs, h1, h2, by rw [upd_ne ha]; exact h3, by rw [upd_ne ha]; exact h4, h5⟩
  · obtain ⟨u, e⟩ := s.old b hb
    exact ⟨u, by rw [upd_ne (ne_of_none e hq)]; exact e⟩
theorem SR.hideTurn {K : Kf} {μ : List Addr} {Hf Fr H : Hp} {M : Mem} {q : Addr} {o o' : HO} (s : SR K μ Hf (upd Fr q o) H M) : SR K μ Hf (upd Fr q o') (upd H q o') M := by
  have hf : Hf q = none := s.dis q o upd_same
  have hH : H q = some o := s.fr q o upd_same
  refine ⟨fun b u e => by rw [upd_ne (ne_of_none e hf)]; exact s.ex b u e, fun b u e => ?_, fun b u e => ?_, s.len, s.nd, fun n ds e => ?_, fun b hb => ?_⟩
  · by_cases hb : b = q
    · subst hb; rw [upd_same] at e ⊢; exact e
    · rw [upd_ne hb] at e ⊢; exact s.fr b u (by rw [upd_ne hb]; exact e)
  · by_cases hb : b = q
    · subst hb; exact hf
    · rw [upd_ne hb] at e; exact s.dis b u (by rw [upd_ne hb]; exact e)
  · obtain ⟨a, vs, h1, h2, h3, h4, h5⟩ := s.cell n ds e
    have ha : a ≠ q := fun z => by subst z; rw [upd_same] at h3; cases h3
    exact ⟨a, vs, h1, h2, by rw [upd_ne ha] at h3 ⊢; exact h3, by rw [upd_ne ha]; exact h4, h5⟩
  · by_cases hb' : b = q
    · subst hb'; exact ⟨_, upd_same⟩
    · obtain ⟨u, e⟩ := s.old b hb
      exact ⟨u, by rw [upd_ne hb']; exact e⟩
theorem SR.show {K : Kf} {μ : List Addr} {Hf Fr H : Hp} {M : Mem} {q : Addr} {o : HO} (s : SR K μ Hf (upd Fr q o) H M) (hq : Fr q = none) : SR K μ (upd Hf q o) Fr H M ∧ Same Hf (upd Hf q o) := by
  have hf : Hf q = none := s.dis q o upd_same
  have hs : Same Hf (upd Hf q o) := fun b u e => by rw [upd_ne (ne_of_none e hf)]; exact e
  refine ⟨⟨fun b u e => ?_, fun b u e => s.fr b u (by rw [upd_ne (ne_of_none e hq)]; exact e), fun b u e => ?_, s.len, s.nd, fun n ds e => ?_, s.old⟩, hs⟩
  · by_cases hb : b = q
    · subst hb; rw [upd_same] at e; rw [← e]; exact s.fr b o upd_same
    · rw [upd_ne hb] at e; exact s.ex b u e
  · have hb : b ≠ q := ne_of_none e hq
    rw [upd_ne hb]; exact s.dis b u (by rw [upd_ne hb]; exact e)
  · obtain ⟨a, vs, h1, h2, h3, h4, h5⟩ := s.cell n ds e
    have ha : a ≠ q := fun z => by subst z; rw [upd_same] at h3; cases h3
    exact ⟨a, vs, h1, by rw [upd_ne ha]; exact h2, by rw [upd_ne ha] at h3; exact h3, h4, h5.mono hs (List.prefix_refl _)⟩
theorem wipe_eq {σ σ' : L2.St} {sl vs : List Nat} (hl : σ'.length = σ.length) (hj : ∀ j, j ∉ sl → σ'[j]? = σ[j]?) (h : ∀ j ∈ sl, j ∈ vs) : L2.wipe σ' vs = L2.wipe σ vs := by
  have key : ∀ (vs : List Nat) (τ τ' : L2.St), τ'.length = τ.length → ∀ j, (L2.wipe τ' vs)[j]? = if j ∈ vs ∧ j < τ.length then some none else τ'[j]? := by
    intro vs
    induction vs with
    | nil => intro τ τ' _ j; simp [L2.wipe]
    | cons v vs ih =>
      intro τ τ' hl j
      show ((L2.wipe τ' vs).set v none)[j]? = _
      by_cases hv : v = j
      · subst hv
        by_cases hlt : v < τ.length
        · rw [List.getElem?_set_self (by rw [L2.wipe_length, hl]; exact hlt), if_pos ⟨List.mem_cons_self, hlt⟩]
        · rw [List.getElem?_eq_none (by rw [List.length_set, L2.wipe_length, hl]; omega), if_neg fun z => hlt z.2, List.getElem?_eq_none (by rw [hl]; omega)]
      · rw [List.getElem?_set_ne hv, ih τ τ' hl j]
        have : (j ∈ v :: vs) ↔ j ∈ vs := by simp [Ne.symm hv]
        simp only [this]
  refine List.ext_getElem? fun j => ?_
  rw [key vs σ σ' hl j, key vs σ σ rfl j]
  by_cases hm : j ∈ vs ∧ j < σ.length
  · rw [if_pos hm, if_pos hm]
  · rw [if_neg hm, if_neg hm]
    by_cases hs : j ∈ sl
    · have : ¬ j < σ.length := fun z => hm ⟨h j hs, z⟩
      rw [List.getElem?_eq_none (by rw [hl]; omega), List.getElem?_eq_none (by omega)]
    · exact hj j hs
theorem lc_go {J : It} {g : TgD} {sl vs : List Nat} {xs : List D} {μ : List Addr} {Hf Fr H : Hp} {Q : VK} {σ : L2.St} {ρ : Ro} {M : Mem} (hsl : ∀ j ∈ sl, j ∈ vs) (w : WalkD X.K μ Hf J xs) (r : ERep X.K μ Hf σ ρ) (s : SR X.K μ Hf Fr H M) (hz : xs.length ≤ lineD)
    (p : Post X.K E ((lcD g ft F (wipeD ρ vs) xs M).bind fun ys M2 => .ok (.lst ys) M2) μ Hf Fr (kD X.K Q)) : ∀ D, H D = none → ∃ W : Nat → Nat → Hp → Prop, (∃ m, W 0 m (upd H D (.lst []))) ∧ ∀ i m H, W i m H →
  (J.stop i H ∧ Q (.ref D) H) ∨ (J.go i H ∧ ∃ Nx : Hp → Prop, (∀ H', Nx H' → ∃ m', m' < m ∧ W (i + 1) m' H') ∧ ∀ x H', J.yld i H x H' → tgF X.K g sl x (L2.wipe σ vs) H' fun σ2 H2 => L2.wipe σ2 vs = L2.wipe σ vs ∧ ttF X.K EN ft σ2 H2 fun b H3 =>
    if b = true then teF X.K EN F σ2 H3 fun y H4 => ∃ acc, H4 D = some (.lst acc) ∧ acc.length < sizeLine ∧ Nx (upd H4 D (.lst (acc ++ [y]))) else Nx H3) := by
  intro D hD
  obtain ⟨w1, w2, w3⟩ := w
  have frD : Fr D = none := s.fr.free hD
  let P : Nat → Hp → Prop := fun i H => ∃ μ1 Hf1 M1 acc accD, Same Hf Hf1 ∧ μ <+: μ1 ∧ SR X.K μ1 Hf1 (upd Fr D (.lst acc)) H M1 ∧ RepAll X.K μ1 Hf1 acc accD ∧ acc.length ≤ i ∧
    Post X.K E ((lcD g ft F (wipeD ρ vs) (xs.drop i) M1).bind fun ys M2 => .ok (.lst (accD ++ ys)) M2) μ1 Hf1 Fr (kD X.K Q)
  refine ⟨fun i m H => m = xs.length - i ∧ i ≤ xs.length ∧ P i H, ⟨_, rfl, Nat.zero_le _, μ, Hf, M, [], [], Same.refl _, List.prefix_refl _, s.hide hD, .nil, Nat.le_refl _, p⟩, ?_⟩
  rintro i m H1 ⟨rfl, hi, μ1, Hf1, M1, acc, accD, e1, m1, s1, ra, hal, p1⟩
  by_cases hlt : i < xs.length
  · refine .inr ⟨w1 i H1 hlt (e1.trans s1.ex), P (i + 1), fun H' q => ⟨xs.length - (i + 1), by omega, rfl, hlt, q⟩, fun x H' y => ?_⟩
    obtain ⟨Hf2, d, e2, s2, hd, rx⟩ := w3 i μ1 Hf1 _ H1 M1 x H' hlt e1 m1 s1 y
    have hx : xs[i] = d := by rw [List.getElem?_eq_getElem hlt] at hd; exact Option.some.inj hd
    have pr := List.prefix_refl μ1
    have p2 := p1.later e2 pr
    rw [List.drop_eq_getElem_cons hlt, hx] at p2
    unfold lcD at p2
    have rw0 : ERep X.K μ1 Hf2 (L2.wipe σ vs) (wipeD ρ vs) := ((r.wipe vs).mono e1 m1).mono e2 pr
    split at p2
    · rename_i ρ' hg
      refine ⟨μ1, Hf2, _, d, ρ', s2.ex, rw0, rx, hg, fun σ' r' hl hj => ⟨?_, ?_⟩⟩
      · have h1 := wipe_eq hl hj hsl
        rw [h1]
        exact wipe_eq (sl := vs) (vs := vs) (σ' := L2.wipe σ vs) (σ := σ) (L2.wipe_length _ _) (fun j hn => by
          have : ∀ (vs : List Nat), j ∉ vs → (L2.wipe σ vs)[j]? = σ[j]? := by
            intro vs
            induction vs with
            | nil => intro _; rfl
            | cons v vs ih =>
              intro hn
              show ((L2.wipe σ vs).set v none)[j]? = _
              rw [List.getElem?_set_ne fun z => hn (by simp [z]), ih fun z => hn (List.mem_cons_of_mem _ z)]
          exact this vs hn) fun _ z => z
      · -- the test
        have assoc : ∀ {α β γ : Type} (o : Out α) (f : α → Mem → Out β) (h : β → Mem → Out γ), (o.bind f).bind h = o.bind fun a M => (f a M).bind h := fun o f h => by cases o <;> rfl
        rw [assoc] at p2
        have pt := post_noX p2
        have unF : ∀ {μ'' : List Addr} {Hf'' H'' : Hp} {M'' : Mem} {u : HO}, SR X.K μ'' Hf'' (upd Fr D u) H'' M'' → SR X.K μ'' Hf'' Fr H'' M'' := fun sr =>
          ⟨sr.ex, fun b u' e' => sr.fr b u' (by rw [upd_ne (ne_of_none e' frD)]; exact e'), fun b u' e' => sr.dis b u' (by rw [upd_ne (ne_of_none e' frD)]; exact e'), sr.len, sr.nd, fun n ds e' => by
            obtain ⟨a, vs, h1, h2, h3, h4, h5⟩ := sr.cell n ds e'
            have ha : a ≠ D := fun z => by subst z; rw [upd_same] at h3; cases h3
            exact ⟨a, vs, h1, h2, by rw [upd_ne ha] at h3; exact h3, h4, h5⟩, sr.old⟩
        -- the frame with the list under way
        have lift : ∀ {α : Type} {o : Out α} {μ' : List Addr} {Hf' : Hp} {k k' : α → List Addr → Hp → Hp → Mem → Prop} {u : HO}, Post X.K EN o μ' Hf' Fr k →
            (∀ a μ'' Hf'' H'' M'', Same Hf' Hf'' → μ' <+: μ'' → SR X.K μ'' Hf'' (upd Fr D u) H'' M'' → (∀ H3, SR X.K μ'' Hf'' Fr H3 M'' → k a μ'' Hf'' H3 M'') → k' a μ'' Hf'' H'' M'') → Post X.K EN o μ' Hf' (upd Fr D u) k' := by
          intro α o μ' Hf' k k' u q h
          cases o with
          | ok a M => exact fun H' Hf'' μ'' e m sr => h a μ'' Hf'' H' M e m sr fun H3 s3 => q H3 Hf'' μ'' e m s3
          | exc x M => exact fun dx H' Hf'' μ'' e m sr xr => q dx H' Hf'' μ'' e m (unF sr) xr
          | no => exact q
        refine ⟨μ1, Hf2, upd Fr D (.lst acc), ρ', M1, r', s2, lift pt fun k μ3 Hf3 H3 M3 e3 m3 s3 p3' => ?_⟩
        have p3 := p3' H3 (unF s3)
        cases k with
        | false =>
          refine iteF ⟨μ3, Hf3, M3, acc, accD, (e1.trans e2).trans e3, m1.trans m3, s3, (ra.mono e2 pr).mono e3 m3, Nat.le_succ_of_le hal, ?_⟩
          rw [if_neg Bool.false_ne_true] at p3
          exact p3
        | true =>
          rw [if_pos rfl, assoc] at p3
          have p4 := post_noX p3
          refine iteT ⟨μ3, Hf3, upd Fr D (.lst acc), ρ', M3, r'.mono e3 m3, s3, lift p4 fun yd μ5 Hf5 H5 M5 e5 m5 s5 p5' yv ry => ?_⟩
          have p5 := p5' H5 (unF s5)
          refine ⟨acc, s5.fr D _ upd_same, line_lt (by have := lineD_eq; omega), μ5, Hf5, M5, acc ++ [yv], accD ++ [yd], ((e1.trans e2).trans e3).trans e5, (m1.trans m3).trans m5, s5.hideTurn, (((ra.mono e2 pr).mono e3 m3).mono e5 m5).app (.cons ry .nil), by simp; omega, ?_⟩
          rw [assoc] at p5
          simpa using p5
    · exact p2.elim
  · have e : i = xs.length := by omega
    subst e
    rw [List.drop_length] at p1
    refine .inl ⟨w2 H1 (e1.trans s1.ex), ?_⟩
    obtain ⟨s6, e6⟩ := s1.show frD
    have p6 : Post X.K E (.ok (.lst accD) M1) μ1 Hf1 Fr (kD X.K Q) := by simpa [lcD] using p1
    exact p6 H1 (upd Hf1 D (.lst acc)) μ1 e6 (List.prefix_refl _) s6 _ (.lst upd_same (ra.mono e6 (List.prefix_refl _)))
end
end Den
namespace Den
open PySem PySem.Spec PyProof.Rows L2
section
variable {X : Cx} {E : XK} {a b c e o : Expr} {es rest : List Expr} {fa fb fc F : FE} {ft fu : FT} {fg : FA} {pos : Pos} {st : Stmt} {sts : List Stmt} {fs gs : FS} {fi : FI}
/-! ### comprehensions as expressions, as the value of a name -/
abbrev DTs (X : Cx) (E : XK) (ifs : List Expr) (F : FT) : Prop := PTs X ifs (ttF X.K E F)
@[simp] def tTrue : FT := fun _ M => .ok true M
theorem pts_imp {ifs : List Expr} {t t' : TT} (h : PTs X ifs t) (i : ∀ σ H Q, t' σ H Q → t σ H Q) : PTs X ifs t' := ⟨fun pins s σ H Q I q => h.run pins s σ H Q I (i σ H Q q)⟩
theorem dts_nil : DTs X E [] tTrue := pts_imp pts_nil fun σ H Q ⟨μ, Hf, Fr, ρ, M, r, s, p⟩ => p.now s
theorem dts_one (h : DT X E c ft) : DTs X E [c] ft := pts_one h
theorem lc_te {g : TgD} {sl vs : List Nat} {σ : L2.St} {H : Hp} {Q : VK} (hsl : ∀ j ∈ sl, j ∈ vs) (h : teF X.K E (eLc fi g vs ft F) σ H Q) : tLc (tiF X.K E fi) (tgF X.K g sl) (ttF X.K EN ft) (teF X.K EN F) vs σ H Q := by
  obtain ⟨μ, Hf, Fr, ρ, M, r, s, p⟩ := h
  refine ⟨μ, Hf, Fr, ρ, M, r, s, p.split.weak fun xs μ1 Hf1 H1 M1 e1 m1 s1 p1 J w => ?_⟩
  split at p1
  · rename_i hz
    exact lc_go hsl w (r.mono e1 m1) s1 hz p1
  · exact p1.elim
section
variable {elt tg iter : Expr} {ifs : List Expr} {scope : Scope} {own : List (Str × Nat)} {g : TgD} {sl vs : List Nat}
theorem de_lc (hc : X.calm = true) (hN : X.N.Nodup) (hi : DI X E tg iter fi) (ok : BlkOk X.N X.env.scope scope own) (hvs : own.map (·.2) = vs) (hsl : ∀ j ∈ sl, j ∈ vs)
    (hg : ∀ (s : Shared) (H : Hp) (C : Addr) (cl : List (Str × Addr)) (fp : List Addr), DG (X.blk s H scope (compEnvC scope cl C X.env) fp) tg g sl)
    (ht : ∀ (s : Shared) (H : Hp) (C : Addr) (cl : List (Str × Addr)) (fp : List Addr), DTs (X.blk s H scope (compEnvC scope cl C X.env) fp) EN ifs ft)
    (he : ∀ (s : Shared) (H : Hp) (C : Addr) (cl : List (Str × Addr)) (fp : List Addr), DE (X.blk s H scope (compEnvC scope cl C X.env) fp) EN elt F) (hs : ∀ x, foldedSetIterable iter X.env x = pure x := by intro _; rfl) :
    DE X E (.ListComp elt [⟨tg, iter, ifs, 0⟩] scope pos) (eLc fi g vs ft F) := by
  subst hvs
  exact pe_imp (pe_lc hc hN hi ok hg ht he hs) fun _ _ _ h => lc_te hsl h
theorem ds_setLc {i : Nat} {y : Str} {py spos : Pos} (hc : X.calm = true) (hN : X.N.Nodup) (hy : X.N[i]? = some y) (hyl : X.env.scope.names.lookup y = some .local)
    (hsw : swapsWith (.ListComp elt [⟨tg, iter, ifs, 0⟩] scope pos) (some (.Name y py)) spos.line X.env = pure true) (hi : DI X E tg iter fi) (ok : BlkOk X.N X.env.scope scope own) (hvs : own.map (·.2) = vs) (hsl : ∀ j ∈ sl, j ∈ vs)
    (hg : ∀ (s : Shared) (H : Hp) (C : Addr) (cl : List (Str × Addr)) (fp : List Addr), DG (X.blk s H scope (compEnvC scope cl C X.env) fp) tg g sl)
    (ht : ∀ (s : Shared) (H : Hp) (C : Addr) (cl : List (Str × Addr)) (fp : List Addr), DTs (X.blk s H scope (compEnvC scope cl C X.env) fp) EN ifs ft)
    (he : ∀ (s : Shared) (H : Hp) (C : Addr) (cl : List (Str × Addr)) (fp : List Addr), DE (X.blk s H scope (compEnvC scope cl C X.env) fp) EN elt F) (hs : ∀ x, foldedSetIterable iter X.env x = pure x := by intro _; rfl) :
    DS X E (.Assign [.Name y py] (.ListComp elt [⟨tg, iter, ifs, 0⟩] scope pos) spos) (sSet i (eLc fi g vs ft F)) := by
  subst hvs
  refine ps_imp (ps_setLc (g := tgF X.K g sl) (tt := ttF X.K EN ft) (te := teF X.K EN F) hc hN hy hyl hsw hi ok hg ht he hs) fun N σ H h => ?_
  obtain ⟨μ, Hf, Fr, ρ, M, r, s, p⟩ := h
  exact lc_te hsl ⟨μ, Hf, Fr, ρ, M, r, s, p.split.weak fun d μ1 Hf1 H1 M1 e1 m1 s1 p1 v rv => p1.now s1 _ ((r.mono e1 m1).put i rv)⟩
end

/-! ### defs -/
/-- what a def promises: it hands back what the function says -/
def spD (K : Kf) (n : Nat) (F : GA) : Sp := fun vs H Q E => vs.length = n ∧ ∃ μ Hf Fr M ds, RepAll K μ Hf vs ds ∧ SR K μ Hf Fr H M ∧ Post K E (F ds M) μ Hf Fr (kD K Q)
structure FnG (P : Program) (w : World) (K : Kf) (mg : Str → Option Value) (base : Heap) (CX : CXT) (k : Nat) (f : Addr) (fd : FuncData) (ps : List Str) (F : GA) : Prop where
  run : ∀ (A : Around) (outer : List Env) (s : Shared) (H : Hp) (args : Args) (us : List Value) (vs : List V) (Q : VK) (E : XK), Room k A → A.guards = some [] → Env0 P w K mg base A outer s H → BindsTo s fd args (ps.zip us) → Vals vs us →
    spD K ps.length F vs H Q E → codeAny (model P w) A (.call (.ref f) args) (CR CX outer P w H s Q E) s
theorem FnG.mono {P : Program} {w : World} {K : Kf} {mg : Str → Option Value} {base : Heap} {CX : CXT} {j k : Nat} {f : Addr} {fd : FuncData} {ps : List Str} {F : GA} (G : FnG P w K mg base CX j f fd ps F) (h : j ≤ k) : FnG P w K mg base CX k f fd ps F :=
  ⟨fun A outer s H args us vs Q E hr => G.run A outer s H args us vs Q E (hr.mono h)⟩
theorem deeper_guards (A : Around) (env : Env) : (A.deeper env).guards = A.guards := by first | rfl | simp [Around.deeper]
section
variable {CX : CXT} {k : Nat} {f : Addr} {fd : FuncData} {ps : List Str} {dvs : List V} {dds : List D} {ds : List Value} {x : Str} {p : Pos} {g : GA}
theorem runG {pins : List (Addr × Obj)} {σ : L2.St} {H : Hp} {s : Shared} {Q : VK} {us : List Value} {vs : List V} (G : FnG X.prog X.w X.K X.mg X.base CX k f fd ps g) (hr : Room k X.A) (hgd : X.A.guards = some []) (hb : Binds X.K fd ps ds) (hd : Vals dvs ds)
    (hx : Passes CX X E) (I : Inv X pins σ H s) (r : Vals vs us) (h : spD X.K ps.length g (vs ++ dvs) H Q E) : wpAny (model X.prog X.w) X.A (call (.ref f) us) (EP X pins σ Q) X.xe s := by
  have rr := r.append hd
  have hn : (us ++ ds).length = ps.length := rr.length.symm.trans h.1
  have go := G.run X.A X.stack s H ⟨us, []⟩ (us ++ ds) (vs ++ dvs) Q E hr hgd I.env0 (hb s us I.kIn hn) rr h
  refine wpAny_call (codeAny_mono go fun res s' q => ?_)
  match res, q with
  | .ok (.ret u), q => exact I.after q
  | .error e, q => exact hx pins σ H s e s' I q
/-- defaults that are data wherever they stand -/
def Dflt (K : Kf) (dvs : List V) (dds : List D) : Prop := ∀ μ Hf, RepAll K μ Hf dvs dds
theorem dflt_nil {K : Kf} : Dflt K [] [] := fun _ _ => .nil
@[simp] def eCall (g : GA) (dds : List D) (n : Nat) (fg : FA) : FE := fun ρ M => (fg ρ M).bind fun xs M1 => if (xs ++ dds).length = n then g (xs ++ dds) M1 else .no
theorem call_go {σ : L2.St} {H : Hp} {Q : VK} (hd : Dflt X.K dvs dds) (h : teF X.K E (eCall g dds ps.length fg) σ H Q) : taF X.K E fg σ H (fun vs H1 => spD X.K ps.length g (vs ++ dvs) H1 Q E) := by
  obtain ⟨μ, Hf, Fr, ρ, M, r, s, z⟩ := h
  refine ⟨μ, Hf, Fr, ρ, M, r, s, z.split.weak fun xs μ1 Hf1 H1 M1 e1 m1 s1 p1 vs rs => ?_⟩
  split at p1
  · rename_i hn
    have ra := rs.app (hd μ1 Hf1)
    exact ⟨by rw [ra.length]; exact hn, μ1, Hf1, Fr, M1, xs ++ dds, ra, s1, p1⟩
  · exact p1.elim
theorem de_call (G : FnG X.prog X.w X.K X.mg X.base CX k f fd ps g) (hr : Room k X.A) (hgd : X.A.guards = some []) (hg : Gl X x) (hm : X.mg x = some (.ref f)) (hk : PySem.W.keepIn X.K (.ref f) = true) (hb : Binds X.K fd ps ds) (hd : Vals dvs ds) (hdd : Dflt X.K dvs dds)
    (hx : Passes CX X E) (ha : DA X E (e :: es) fg) (hdb : (x == ("__debug__" : Str)) = false := by decide) (he : starEach (e :: es) X.env = (false, eval e X.env) :: starEach es X.env := by rfl) (hpl : (backTo pos (starEach es X.env)).any (·.1) = false := by rfl) :
    DE X E (.Call (.Name x p) (e :: es) [] pos) (eCall g dds ps.length fg) := by
  constructor
  intro pins s σ H Q I h
  refine wpAny_Call_Name_kw (ld_glob I hg hm (PySem.W.callWith_K (h₀ := X.base) I.ok.mod.kin hk (thn (ha.run pos pins s σ H _ I (call_go hdd h)) ?_) he hpl) hdb)
  rintro us s1 ⟨vs, H1, I1, r, q⟩
  exact ⟨I1.kIn, runG G hr hgd hb hd hx I1 r q⟩
/-- a def that a name of the frame's holds; S: which function stands at which address -/
@[simp] def eCallL (i : Nat) (S : Addr → Option (Nat × GA)) (fg : FA) : FE := fun ρ M => match ρ[i]? with
  | some (some (.fn a)) => match S a with
    | some (n, g) => (fg ρ M).bind fun xs M1 => if xs.length = n then g xs M1 else .no
    | none => .no
  | _ => .no
structure HeldG (P : Program) (w : World) (K : Kf) (mg : Str → Option Value) (base : Heap) (k : Nat) (f : Addr) (n : Nat) (g : GA) : Prop where
  ex : ∃ (fd : FuncData) (ps : List Str), FnG P w K mg base CX0 k f fd ps g ∧ PySem.W.keepIn K (.ref f) = true ∧ Binds K fd ps [] ∧ ps.length = n
theorem de_callL {i : Nat} {S : Addr → Option (Nat × GA)} (A : ∀ f n g, S f = some (n, g) → HeldG X.prog X.w X.K X.mg X.base k f n g) (hr : Room k X.A) (hgd : X.A.guards = some []) (hN : X.N[i]? = some x) (hv : Vis X.env.scope x) (ha : DA X E (e :: es) fg)
    (hdb : (x == ("__debug__" : Str)) = false := by decide) (hcd : (x == ("__classdict__" : Str)) = false := by decide)
    (he : starEach (e :: es) X.env = (false, eval e X.env) :: starEach es X.env := by rfl) (hpl : (backTo pos (starEach es X.env)).any (·.1) = false := by rfl) : DE X E (.Call (.Name x p) (e :: es) [] pos) (eCallL i S fg) := by
  constructor
  rintro pins s σ H Q I ⟨μ, Hf, Fr, ρ, M, r, sr, z⟩
  unfold eCallL at z
  split at z
  · rename_i f hf
    split at z
    · rename_i n g hS
      obtain ⟨fd, ps, G, hk, hb, hn⟩ := (A f n g hS).ex
      subst hn
      obtain ⟨v, h1, h2⟩ := r.slot i _ hf
      cases h2
      refine wpAny_Call_Name_kw (thn ((pe_var (pos := p) hN hv hdb hcd).run pins s σ H (fun v H1 => v = .ref f ∧ H1 = H) I ⟨.ref f, h1, rfl, rfl⟩) ?_)
      rintro u s1 ⟨v, H1, I1, r1, rfl, rfl⟩
      cases r1
      refine PySem.W.callWith_K (h₀ := X.base) I.ok.mod.kin hk (thn (ha.run pos pins s1 σ _ _ I1 (call_go (dvs := []) (dds := []) (Q := Q) (g := g) dflt_nil ⟨μ, Hf, Fr, ρ, M, r, sr, by simpa [eCall] using z⟩)) ?_) he hpl
      rintro us s2 ⟨vs, H2, I2, rv, q⟩
      exact ⟨I2.kIn, runG (E := E) G hr hgd hb .nil (fun _ _ _ _ _ _ _ y => y.elim) I2 rv q⟩
    · exact z.elim
  · exact z.elim
end
/-- the function of a def by what its body does to its names -/
@[simp] def defF (n : Nat) (body : FS) : GA := fun ds M => (body (ds.map some ++ List.replicate (n - ds.length) none) M).noX.bind fun f M1 => match f with
  | .rt d => .ok d M1
  | .nx _ => .ok .non M1
  | _ => .no
theorem start_rep {K : Kf} {μ : List Addr} {H : Hp} {N : List Str} {vs : List V} {ds : List D} (r : RepAll K μ H vs ds) : ERep K μ H (L2.start N vs) (ds.map some ++ List.replicate (N.length - ds.length) none) := by
  unfold L2.start
  refine ⟨by simp [r.length], fun i d e => ?_⟩
  by_cases hi : i < ds.length
  · rw [List.getElem?_append_left (by simpa using hi), List.getElem?_map] at e
    cases hd : ds[i]? with
    | none => rw [hd] at e; cases e
    | some d' =>
      rw [hd] at e
      have e' : d' = d := by simpa using e
      subst e'
      obtain ⟨v, h1, h2⟩ := r.at hd
      refine ⟨v, ?_, h2⟩
      rw [List.getElem?_append_left (by simp [r.length, hi]), List.getElem?_map, h1]
      rfl
  · rw [List.getElem?_append_right (by simpa using hi), List.getElem?_replicate] at e
    split at e <;> cases e
section
variable {P : Program} {w : World} {K : Kf} {mg : Str → Option Value} {base : Heap}
/-- THE RULE for a def by its body (that lets nothing out) -/
theorem fnG_of {x qual : Str} {f : Addr} {fd : FuncData} {N ps : List Str} {k : Nat} {body : FS} (F : Fun K x qual st f fd) (S : FnScope N ps (defScope st))
    (hb : ∀ (cdv : Value) (A : Around) (outer : List Env) (s : Shared) (H : Hp) (E : XK), Room k (A.deeper (envOfC qual (defScope st) s.heap.objs.size f cdv)) → A.guards = some [] →
      DSs (cxOf CX0 P w K mg base N qual (defScope st) f cdv A outer s H E).nox EN (defBody st) body) : FnG P w K mg base CX0 (k + 1) f fd ps (defF N.length body) := by
  obtain ⟨oc, od, kV, doc, pm, an, cdv, ct, osl, rfl, lk, hcd⟩ := F.ex
  constructor
  rintro A outer s H args us vs Q E hr hgd e0 hbd rv ⟨hl, μ, Hf, Fr, M, ds, ra, sr, z⟩
  have keep : ∀ b o, base.get? b = some o → s.heap.get? b = some o := fun b o e => (e0.bs b o e).1
  have kin := e0.mod.kin.keeps keep
  have kinds : ∀ y ∈ ps.zip us, (defScope st).names.lookup y.1 = some .local ∨ ((defScope st).names.lookup y.1 = some .cell ∧ ((cellsFrom (s.heap.objs.size + 1) (defScope st).names []).lookup y.1).isSome = true) := by
    rintro ⟨y, v⟩ hy
    exact (S.par y (List.of_mem_zip hy).1).imp _root_.id fun q => ⟨q, PySem.W.cellsFrom_some _ _ _ (.inl q)⟩
  refine codeAny_call_function hr.depth (kin _ _ lk) rfl S.co S.gen rfl (PySem.W.codeRec_of kin hcd) (hbd _ _ _ _ ?_)
  refine wpAny_newFunctionEnv_cells S.kind kinds ?_
  rintro env rfl s1 ent
  refine ⟨(e0.mod.nolimit.keeps keep).keeps ent.toInCall.keep, codeAny_func ?_⟩
  have I := inv_start (CX := CX0) (P := P) (w := w) (mg := mg) (E := E) (vs := vs) S hr.hd e0 hl rv ent
  have ran := (hb cdv A outer s H E (hr.deeper _) hgd).nox
  have want : tsF K EN body { nx := fun _ H' => Q .non H', rt := Q } (L2.start N vs) H := by
    refine ⟨μ, Hf, Fr, _, M, start_rep ra, sr, (post_noX z).weak fun f μ1 Hf1 H1 M1 e1 m1 s1 p1 => ?_⟩
    cases f with
    | rt d => exact fun v r1 => p1.now s1 v r1
    | nx ρ => exact fun _ _ => p1.now s1 _ .non
    | bk ρ => exact p1.elim
    | ct ρ => exact p1.elim
  refine wpAny_mono (ran.run [] s1 (L2.start N vs) H _ I want) (fun fl s' hs => ?_) fun e s' hs => hs
  match fl, hs with
  | .ret u, ⟨v, σ', H', J, rr, q⟩ => exact ⟨v, H', J.os, J.bare, J.base, J.hok, rr, q⟩
  | .next, ⟨σ', H', J, q⟩ => exact ⟨.non, H', J.os, J.bare, J.base, J.hok, rfl, q⟩
  | .brk, ⟨_, _, _, q⟩ => exact False.elim q
  | .cont, ⟨_, _, _, q⟩ => exact False.elim q
end
end
end Den
namespace Den
open PySem PySem.Spec PyProof.Rows L2
theorem ints_rep {K : Kf} {μ : List Addr} {H : Hp} : ∀ ns : List Int, RepAll K μ H (ns.map V.int) (ns.map D.int)
  | [] => .nil
  | n :: ns => .cons (.int n) (ints_rep ns)
/-! ### the law's call -/
theorem law_callG {P : Program} {w : World} {K : Kf} {mg mb : Str → Option Value} {k : Nat} {fa a : Addr} {fd : FuncData} {x : Str} {s₁ : Shared} {vs : List Value} {ns : List Int}
    (kin : K.In s₁.heap) (hns : s₁.heap.Ns mainGlobals mg) (hb : s₁.heap.Ns builtinsNs mb) (hbb : ∀ x : Str, x ≠ "__name__" → mb x = bootBuiltins x) (hlim : s₁.heap.NoLimit) (hg : s₁.gens = #[])
    (ha : s₁.heap.get? a = some { cls := .type "list", data := .seq vs.toArray }) (hi : IntsAre vs ns) (hl : ns.length ≤ sizeLine) (hr : Room k callerA)
    (F : ∀ base : Heap, K.In base → base.Ns mainGlobals mg → ∃ g M', FnG P w K mg base CX0 k fa fd [x] g ∧ g [.scr (ns.map D.int)] [] = .ok (.bl true) M') (hbind : ∀ (s : Shared) (u : Value), BindsTo s fd ⟨[u], []⟩ [(x, u)]) :
    codeAny (model P w) callerA (.call (.ref fa) ⟨[.ref a], []⟩) (fun r s' => r = .ok (.ret (.bool true)) ∧ OldK s₁.heap s'.heap ∧ s'.os = s₁.os ∧ AllBare s'.gens) s₁ := by
  have rv := vals_ints hi
  have lenV := hi.length
  have core : ∀ H : Hp, Only H → SqL K H a (ns.map V.int) → HOk P w H s₁.heap → (∀ b, H b ≠ none → b = a) → (H a ≠ none → K.lookup a = none) →
      codeAny (model P w) callerA (.call (.ref fa) ⟨[.ref a], []⟩) (fun r s' => r = .ok (.ret (.bool true)) ∧ OldK s₁.heap s'.heap ∧ s'.os = s₁.os ∧ AllBare s'.gens) s₁ := by
    intro H only sq ok one away
    have at_a : ∀ {b : Addr} {u : HO}, H b = some u → b = a := fun {b u} q => one b (by rw [q]; exact fun z => nomatch z)
    have nodict : ∀ {b : Addr} {o : Obj} {es : Array DictEntry} {ep : Nat}, s₁.heap.get? b = some o → o.data = .dict es ep → H b = none := by
      intro b o es ep e d
      cases q : H b with
      | none => rfl
      | some u =>
        rw [at_a q, ha] at e
        cases e
        cases d
    have ns_base : ∀ {b : Addr} {m : Str → Option Value}, s₁.heap.Ns b m → (hidT s₁.heap H).Ns b m := by
      rintro b m ⟨o, es, ep, e, d, r⟩
      exact ⟨o, es, ep, hidT_get e (nodict e d), d, r⟩
    have kin_base : K.In (hidT s₁.heap H) := by
      intro b o e
      refine hidT_get (kin b o e) ?_
      cases q : H b with
      | none => rfl
      | some u =>
        have z := at_a q
        subst z
        rw [away (by rw [q]; exact fun z => nomatch z)] at e
        cases e
    have md : Mod K mg (hidT s₁.heap H) := by
      obtain ⟨mc, c1, c2⟩ := hlim
      exact ⟨kin_base, ns_base hns, ⟨mb, ns_base hb, hbb⟩, mc, ns_base c1, c2⟩
    have e0 : Env0 P w K mg (hidT s₁.heap H) callerA [] s₁ H := by
      refine ⟨rfl, md, fun b o e => of_hidT e, Nat.le_of_eq (hidT_size _ _), trivial, fun b hb => ?_, ok, .of_eq hg⟩
      exact absurd (show b ∈ ([] : List Addr) from hb) (by simp)
    obtain ⟨g, M', G, hM⟩ := F _ kin_base (ns_base hns)
    have sp : spD K [x].length g [.ref a] H (fun v _ => v = .bl true) EN := by
      refine ⟨rfl, [], H, fun _ => none, [], [.scr (ns.map D.int)], .cons (.scr sq (ints_rep ns)) .nil, ⟨fun _ _ e => e, fun _ _ e => (nomatch e), fun _ _ e => (nomatch e), rfl, List.nodup_nil, fun n ds e => by simp at e, fun b hb => by simp at hb⟩, ?_⟩
      rw [hM]
      exact fun H' Hf' μ' _ _ _ v r => by cases r; rfl
    refine codeAny_mono (G.run callerA [] s₁ H ⟨[.ref a], []⟩ [.ref a] [.ref a] _ EN hr rfl e0 (hbind s₁ (.ref a)) (.cons rfl .nil) sp) ?_
    intro r s' h
    match r, h with
    | .error e, h => exact h.elim
    | .ok (.ret u), ⟨v, H', os, bare, un, ok', r', q⟩ =>
      have q' : v = .bl true := q
      subst q'
      have u' : u = Value.bool true := r'
      subst u'
      refine ⟨rfl, OldK.of_keep fun b o e => ?_, os, bare⟩
      have nil : b ∉ ([] : List Addr) := by simp
      cases q : H b with
      | none => exact un.keep b o e q nil nil
      | some u =>
        rcases only b with z | ⟨ob, xs, z⟩
        · rw [q] at z; cases z
        · have x1 := (ok b _ z).1
          have x2 := (ok' b _ (un.frzs b ob _ z)).1
          rw [e] at x1
          cases x1
          exact x2
  cases hk : K.lookup a with
  | some o =>
    have e := kin a o hk
    rw [ha] at e
    cases e
    have sq : SqL K (fun _ => none) a (ns.map V.int) := .inr ⟨_, vs.toArray, _, hk, rfl, rfl, rfl, by rw [List.size_toArray, lenV]; exact hl, by simpa using rv⟩
    exact core (fun _ => none) (fun _ => .inl rfl) sq (fun b u z => nomatch z) (fun b z => absurd rfl z) fun z => absurd rfl z
  | none =>
    let o : Obj := { cls := .type "list", data := .seq vs.toArray }
    let H : Hp := upd (fun _ => none) a (.frz o (.lst (ns.map V.int)))
    have hHa : H a = some (.frz o (.lst (ns.map V.int))) := upd_same
    have hHn : ∀ b, b ≠ a → H b = none := fun b hb => upd_ne hb
    refine core H (fun b => ?_) (.inl (.inr ⟨o, hHa⟩)) (fun b u z => ?_) (fun b z => ?_) fun _ => hk
    · by_cases hb : b = a
      · subst hb; exact .inr ⟨_, _, hHa⟩
      · exact .inl (hHn b hb)
    · by_cases hb : b = a
      · subst hb
        rw [hHa] at z
        cases z
        exact ⟨ha, by rw [List.length_map]; exact hl, vs, _, rv, ha⟩
      · rw [hHn b hb] at z; cases z
    · by_cases hb : b = a
      · exact hb
      · exact absurd (hHn b hb) z
/-- the goal that the head leaves, from what the law's function says -/
theorem walkG {l : PySem.W.OpenLaw} {n k : Nat} {q : Program} {loose : List Str} {XP : (Str → Option Value) → Heap → Prop} {YP : World → Heap → Prop} {d : DefRec} {K : Params → Kf} {x : Str}
    (hn : l.most = some n) (hn2 : n ≤ sizeLine) (hdf : d.params.defaults = []) (hr : Room k callerA) (hY : ∀ (w : World) (h : Heap), YP w h → (K w.params).In h)
    (F : ∀ (w : World) (mg : Str → Option Value) (fa : Addr) (h : Heap), (K w.params).In h → h.Ns mainGlobals mg → mg d.name = some (.ref fa) →
      ∃ fd : FuncData, (∀ (s : Shared) (u : Value), BindsTo s fd ⟨[u], []⟩ [(x, u)]) ∧
        ∀ (base : Heap) (ns : List Int), ns.length ≤ n → (K w.params).In base → base.Ns mainGlobals mg → ∃ g M', FnG l.prog w (K w.params) mg base CX0 k fa fd [x] g ∧ g [.scr (ns.map D.int)] [] = .ok (.bl true) M') :
    PySem.W.WalkO q loose XP YP l.row.toRowW d [] (fun f vs => PySem.call f vs) := by
  refine Att.attach_call hn hdf ?_
  intro w s₀ s₁ mg mb fa o pm cd doc a vs ns G Y ho hd hcd hmg hobj hints hlen hg
  obtain ⟨fd, hb, hF⟩ := F w mg fa _ (hY w _ Y) G.T.g hmg
  exact law_callG (hY w _ Y) G.T.g G.T.b G.T.builtins G.T.nolimit hg hobj hints (Nat.le_trans hlen hn2) hr (fun base h1 h2 => hF base ns hlen h1 h2) hb

section
variable {X : Cx} {E : XK} {a b c e o : Expr} {es rest : List Expr} {fa fb fc F : FE} {ft fu : FT} {fg : FA} {pos : Pos} {st : Stmt} {sts : List Stmt} {fs gs : FS} {fi : FI}
/-! ### dicts that are only held -/
@[simp] def eD0 : FE := fun _ M => .ok (.dct [] []) M
theorem de_d0 : DE X E (.Dict [] [] pos) eD0 := pe_imp pe_dnewK fun σ H Q ⟨μ, Hf, Fr, ρ, M, r, s, p⟩ q hq => p.new s hq fun e => .dct upd_same rfl .nil
end

/-! ### list(text) -/
theorem call_list_str {prog : Program} {w : World} {A : Around} {E : Value → Shared → Prop} {s : Shared} {Q : Value → Shared → Prop} (hh : A.handled = none) (x : Str) (t : Tok) (hn : x.cps.size ≤ sizeLine)
    (hQ : ∀ h' tk acc' c', (∀ b o, s.heap.get? b = some o → h'.get? b = some o) → h'.get? s.heap.objs.size = some { cls := .type "list", dict := none, data := .seq acc' c', slots := #[] } → ItemsOf (SignAt x) acc' x.cps.size → Q (.ref s.heap.objs.size) { s with heap := h', toks := tk }) :
    wpAny (model prog w) A (call (.type "list") [.str x t]) Q E s := by
  refine callType_codes (Q₁ := fun obj s₁ => obj = .ref s.heap.objs.size ∧ s₁ = { s with heap := s.heap.push { cls := .type "list", data := .seq #[] } }) PySem.F.called_list (PySem.F.typeCall_list_1 _) PySem.F.entry_list_init (code_list_new _ ⟨rfl, rfl⟩) ?_
  rintro obj s₁ ⟨rfl, rfl⟩
  have hS : (s.heap.push { cls := .type "list", data := .seq #[] }).get? s.heap.objs.size = some { cls := .type "list", data := .seq #[] } := Heap.get?_push_size _ rfl
  refine ⟨⟨_, hS, rfl⟩, PySem.F.args_list_init_2 _ _, ?_⟩
  show wpAny _ _ (do let old ← Builtin.List.listItems (.ref s.heap.objs.size); Builtin.List.listUpdate (.ref s.heap.objs.size) (fun _ => #[]); letGo old.toList.reverse; Builtin.List.listExtendWith (.ref s.heap.objs.size) (.str x t) .none) _ _ _
  refine wpAny_bind ?_
  unfold Builtin.List.listItems
  refine wpAny_bind (wpAny_seqItems hS rfl (wpAny_pure ?_))
  show wpAny _ _ (updateSeq s.heap.objs.size (fun _ => #[]) >>= fun _ => letGo (#[] : Array Value).toList.reverse >>= fun _ => Builtin.List.listExtendWith (.ref s.heap.objs.size) (.str x t) .none) _ _ _
  refine wpAny_bind (wpAny_updateSeq hS rfl ?_)
  have hS₂ := Heap.get?_update_self (Obj.mapSeq (fun _ => (#[] : Array Value))) hS rfl
  have oth : ∀ b o, s.heap.get? b = some o → ((s.heap.push { cls := .type "list", data := .seq #[] }).update s.heap.objs.size (Obj.mapSeq (fun _ => (#[] : Array Value)))).get? b = some o :=
    fun b o e => (Heap.get?_update_other _ _ (Nat.ne_of_gt (Heap.lt_size e))).trans (Heap.get?_push_of_some _ e)
  refine wpAny_bind (wpAny_letGo ?_)
  generalize hH : (s.heap.push { cls := .type "list", data := .seq #[] }).update s.heap.objs.size (Obj.mapSeq (fun _ => (#[] : Array Value))) = H at hS₂ oth ⊢
  unfold Builtin.List.listExtendWith
  refine wpAny_bind (wpAny_typeOf (T := "str") (v := .str x t) rfl ?_)
  have h1 : Builtin.List.listSameRef (.ref s.heap.objs.size) (.str x t) = false := rfl
  have h2 : (Value.type "str" == Value.type "list") = false := by decide
  have h3 : (Value.type "str" == Value.type "tuple") = false := by decide
  simp only [h1, h2, h3, Bool.or_false, Bool.false_eq_true, if_false]
  refine wpAny_bind (wpAny_pyIter_str fun o St W hst => ?_)
  refine wpAny_bind (wpAny_holding ?_)
  unfold Builtin.List.listLengthHint
  refine wpAny_bind (wpAny_specialOf (T := "str") (v := .str x t) rfl PySem.F.str_len ?_)
  wp_delta
  refine wpAny_bind (wpAny_isInstance (T := "str") (v := .str x t) (b := true) rfl (by rw [isSubtype_type]; kernel_rfl) ?_)
  show wpAny _ _ (typeOf (Value.str x t) >>= _) _ _ _
  refine wpAny_bind (wpAny_typeOf (T := "str") (v := .str x t) rfl ?_)
  refine wpAny_pure ?_
  rw [if_neg (by decide)]
  have hlt : s.heap.objs.size < H.objs.size := Heap.lt_size hS₂
  have hSf : s.heap.objs.size ∉ [H.objs.size] := fun hm => by
    have := List.mem_singleton.mp hm
    omega
  refine wpAny_pure ⟨plainId_quiet PySem.F.plain_extend_loop _, codeAny_extend_loopS (W A.in1.in1 hh).toS hn _ hSf _ x.cps.size 0 _ _ _ rfl (Nat.zero_le _) hst (Heap.get?_push_of_some _ hS₂) (ItemsOf.nil _) fun s' acc' c' hm hS' hacc => ?_⟩
  rw [Moved.eq_with hm]
  refine ⟨rfl, hQ s'.heap s'.toks acc' c' (fun b ob e => hm.heap b ob (fun hb => ?_) (Heap.get?_push_of_some _ (oth b ob e))) hS' hacc⟩
  have hlb := Heap.lt_size e
  rcases List.mem_cons.mp hb with q | q
  · rw [q] at hlb
    exact Nat.lt_irrefl _ hlb
  · rw [List.mem_singleton.mp q] at hlb
    exact absurd (Nat.lt_trans hlb hlt) (Nat.lt_irrefl _)
section
variable {X : Cx} {E : XK}
@[simp] def gList : GA := fun ds M => match ds with
  | [.str z] => if z.length ≤ lineD then .ok (.lst (signs z)) M else .no
  | [.tup xs] => .ok (.lst xs) M
  | [d] => match itemsD d M with
    | some xs => .ok (.lst xs) M
    | none => .no
  | _ => .no
theorem vals_signs : ∀ {us : List Value} {cs : List Nat}, us.length = cs.length → (∀ (j : Nat) (c : Nat) (u : Value), cs[j]? = some c → us[j]? = some u → ∃ t, u = .str ⟨#[c]⟩ t) → Vals (cs.map fun c => V.str ⟨#[c]⟩) us
  | [], [], _, _ => .nil
  | u :: us, c :: cs, hl, h => by
    obtain ⟨t, e⟩ := h 0 c u rfl rfl
    exact .cons ⟨t, e⟩ (vals_signs (by simpa using hl) fun j c' u' h1 h2 => h (j + 1) c' u' (by simpa using h1) (by simpa using h2))
  | [], _ :: _, hl, _ => by simp at hl
  | _ :: _, [], hl, _ => by simp at hl
theorem signs_rep {K : Kf} {μ : List Addr} {H : Hp} : ∀ cs : List Nat, RepAll K μ H (cs.map fun c => V.str ⟨#[c]⟩) (cs.map fun c => D.str ⟨#[c]⟩)
  | [] => .nil
  | c :: cs => .cons (.str _) (signs_rep cs)
theorem c_list (hc : X.calm = true) : CallR X (.type "list") (rA X.K E gList) := by
  intro pins s σ H xs us Q I rv ⟨μ, Hf, Fr, M, ds, rs, sr, p⟩
  unfold gList at p
  split at p
  · rename_i z
    split at p
    · rename_i hz
      cases rs with
      | cons r t =>
        cases t; cases r
        obtain ⟨u, rfl, t, rfl⟩ := vals1 rv
        refine call_list_str (I.ok.hd hc) z t (line_le hz) fun h' tk acc' c' kp hl hi => ?_
        have hf := I.hok.fresh (Nat.le_refl s.heap.objs.size)
        refine ⟨.ref s.heap.objs.size, upd H s.heap.objs.size (.lst (z.cps.toList.map fun c => V.str ⟨#[c]⟩)), ?_, rfl, p.new sr hf fun e => rep_lst (signs_rep _) e⟩
        refine I.laid (t' := tk) kp (Nat.le_refl _) ⟨by rw [List.length_map]; exact line_le hz, acc'.toList, c', ?_, by simpa using hl⟩
        have i1 : acc'.size = z.cps.size := hi.1
        refine vals_signs (by simp [i1]) fun j cc u h1 h2 => ?_
        obtain ⟨c2, t2, g1, g2⟩ := hi.2 j u (by simpa using h2)
        rw [Array.getElem?_toList, g1] at h1
        cases h1
        exact ⟨t2, g2⟩
    · exact p.elim
  · rename_i xs
    cases rs with
    | cons r t =>
      cases t
      cases r with
      | tup q t => exact call_list_of pins s σ H _ us Q I rv ⟨_, _, rfl, .inr (same_t sr.ex q), fun l hl => p.new sr hl fun e => rep_lst t e⟩
  · split at p
    · rename_i xs hx
      cases rs with
      | cons r t =>
        cases t
        obtain ⟨a, vs, rfl, q, t⟩ := items_of sr r hx
        exact call_list_of pins s σ H _ us Q I rv ⟨_, _, rfl, .inl q, fun l hl => p.new sr hl fun e => rep_lst t e⟩
    · exact p.elim
  · exact p.elim
end
end Den
namespace Den
open PySem PySem.Spec PyProof.Rows L2
/-- a def of the module, by its name: what its call hands back -/
structure CalG (P : Program) (w : World) (K : Kf) (mg : Str → Option Value) (base : Heap) (k : Nat) (x : Str) (n : Nat) (g : GA) : Prop where
  ex : ∃ (f : Addr) (fd : FuncData) (ps : List Str), mg x = some (.ref f) ∧ PySem.W.keepIn K (.ref f) = true ∧ Binds K fd ps [] ∧ ps.length = n ∧ FnG P w K mg base CX0 k f fd ps g
section
variable {X : Cx} {E : XK} {a b c e o : Expr} {es rest : List Expr} {fa fb fc F : FE} {ft fu : FT} {fg : FA} {pos : Pos} {k : Nat} {x : Str} {p : Pos} {n : Nat} {g : GA}
theorem de_callN (C : CalG X.prog X.w X.K X.mg X.base k x n g) (hr : Room k X.A) (hgd : X.A.guards = some []) (hg : Gl X x) (ha : DA X E (e :: es) fg) (hdb : (x == ("__debug__" : Str)) = false := by decide)
    (he : starEach (e :: es) X.env = (false, eval e X.env) :: starEach es X.env := by rfl) (hpl : (backTo pos (starEach es X.env)).any (·.1) = false := by rfl) : DE X E (.Call (.Name x p) (e :: es) [] pos) (eCall g [] n fg) := by
  obtain ⟨f, fd, ps, hm, hk, hb, rfl, G⟩ := C.ex
  exact de_call G hr hgd hg hm hk hb .nil dflt_nil (fun _ _ _ _ _ _ _ y => y.elim) ha hdb he hpl
theorem de_ty {T : String} (hg : Gl X x) (hm : X.mg x = none) (hv : bootBuiltins x = some (.type T)) (hn : x ≠ "__name__" := by decide) (hd : (x == ("__debug__" : Str)) = false := by decide) : DE X E (.Name x pos) (fun _ M => .ok (.ty T) M) :=
  de_c (t := tC (.ty T)) (.ty T) (pe_bltn hg hm hv rfl hn hd) fun _ _ => .ty T
/-- a tuple of the module -/
def KTup (K : Kf) (a : Addr) (ds : List D) : Prop := ∀ μ Hf, Rep K μ Hf (.ref a) (.tup ds)
theorem ktup_of {K : Kf} {a : Addr} {o : Obj} {its : Array Value} {n : Nat} {vs : List V} {ds : List D} (h : K.lookup a = some o) (hc : o.cls = .type "tuple") (hd : o.data = .seq its n) (hz : its.size ≤ sizeLine) (r : Vals vs its.toList) (q : ∀ μ Hf, RepAll K μ Hf vs ds) : KTup K a ds :=
  fun μ Hf => .tup (.inr ⟨o, its, n, h, hc, hd, hz, r⟩) (q μ Hf)
theorem de_ktup {u : Addr} {ds : List D} (hg : Gl X x) (hm : X.mg x = some (.ref u)) (h : KTup X.K u ds) (hd : (x == ("__debug__" : Str)) = false := by decide) : DE X E (.Name x pos) (fun _ M => .ok (.tup ds) M) := de_glob hg hm (v := .ref u) rfl h hd
theorem de_kint {i : Int} {t : Tok} (hg : Gl X x) (hm : X.mg x = some (.int i t)) (hd : (x == ("__debug__" : Str)) = false := by decide) : DE X E (.Name x pos) (fun _ M => .ok (.int i) M) := de_glob hg hm (v := .int i) ⟨t, rfl⟩ (fun _ _ => .int i) hd
theorem de_kintE {i : Int} (hg : Gl X x) (hm : ∃ t, X.mg x = some (.int i t)) (hd : (x == ("__debug__" : Str)) = false := by decide) : DE X E (.Name x pos) (fun _ M => .ok (.int i) M) := de_kint hg hm.choose_spec hd
theorem de_ktupE {ds : List D} (hg : Gl X x) (hm : ∃ u, X.mg x = some (.ref u) ∧ KTup X.K u ds) (hd : (x == ("__debug__" : Str)) = false := by decide) : DE X E (.Name x pos) (fun _ M => .ok (.tup ds) M) := de_ktup hg hm.choose_spec.1 hm.choose_spec.2 hd
theorem de_fn {f : Addr} (hg : Gl X x) (hm : X.mg x = some (.ref f)) (hd : (x == ("__debug__" : Str)) = false := by decide) : DE X E (.Name x pos) (fun _ M => .ok (.fn f) M) := de_glob hg hm (v := .ref f) rfl (fun _ _ => .fn f) hd
/-- {text: constant} -/
theorem de_dc1 {kx : Str} {w : V} {d : D} {ke ve : Expr} (hk : PE X ke (tC (.str kx))) (hv : PE X ve (tC w)) (r : ∀ μ Hf, Rep X.K μ Hf w d) : DE X E (.Dict [some ke] [ve] pos) (fun _ M => .ok (.dct [.inr kx] [d]) M) := by
  refine pe_imp (pe_disp (pps_cons hk hv pps_nil) (by rfl) (by rfl) (fun z => by cases z) (by show 1 ≤ 15; decide)) fun σ H Q ⟨μ, Hf, Fr, ρ, M, _, s, z⟩ => ?_
  intro q hq
  refine ⟨upd_same, [(.inr kx, w)], rfl, by show 1 ≤ 15; decide, ?_⟩
  rw [upd_upd]
  exact z.new s hq fun e => .dct upd_same rfl (.cons (r _ _) .nil)
@[simp] def eNeg (F : FE) : FE := fun ρ M => (F ρ M).bind fun d M1 => match d with
  | .int i => .ok (.int (-i)) M1
  | _ => .no
theorem de_neg (h : DE X E a F) : DE X E (.UnaryOp .USub a pos) (eNeg F) := by
  refine pe_imp (pe_un un_neg h) fun σ H Q ⟨μ, Hf, Fr, ρ, M, r, s, p⟩ => ?_
  refine ⟨μ, Hf, Fr, ρ, M, r, s, p.split.weak fun d μ1 Hf1 H1 M1 e1 m1 s1 p1 v rv => ?_⟩
  split at p1
  · cases rv; exact ⟨_, rfl, p1.now s1 _ (.int _)⟩
  · exact p1.elim
end
abbrev eNone : FE := fun _ M => .ok .non M
abbrev eBool (b : Bool) : FE := fun _ M => .ok (.bl b) M
abbrev eInt (i : Int) : FE := fun _ M => .ok (.int i) M
abbrev eStr (x : Str) : FE := fun _ M => .ok (.str x) M
abbrev eTy (x : String) : FE := fun _ M => .ok (.ty x) M
abbrev eFn (f : Addr) : FE := fun _ M => .ok (.fn f) M
abbrev eTupC (ds : List D) : FE := fun _ M => .ok (.tup ds) M
abbrev eD1 (k : Str) (i : Int) : FE := fun _ M => .ok (.dct [.inr k] [.int i]) M
abbrev sBk : FS := fun ρ M => .ok (.bk ρ) M
abbrev sCt : FS := fun ρ M => .ok (.ct ρ) M
abbrev sRetN : FS := fun _ M => .ok (.rt .non) M
@[simp] def eJoin (fa fb : FE) : FE := fun ρ M => (fa ρ M).bind fun x M1 => match x with
  | .str _ => (fb ρ M1).bind fun y M2 => gJoin x y M2
  | _ => .no
theorem GD (A : Around) {env : Env} (h : A.guards = some []) : (A.deeper env).guards = some [] := (deeper_guards A env).trans h
end Den
namespace Den
open PySem PySem.Spec PyProof.Rows L2
/-! ### loops and comprehensions by what holds between two turns -/
theorem loop_inv {g : TgD} {body : FS} (I : Ro → Mem → Prop) : ∀ {xs : List D} {ρ : Ro} {M : Mem}, (∀ d ∈ xs, ∀ ρ M, I ρ M → ∃ ρ1 ρ2 M2, g d ρ = some ρ1 ∧ (body ρ1 M = .ok (.nx ρ2) M2 ∨ body ρ1 M = .ok (.ct ρ2) M2) ∧ I ρ2 M2) → I ρ M →
    ∃ ρ' M', loopD g body xs ρ M = .ok (.nx ρ') M' ∧ I ρ' M'
  | [], ρ, M, _, h0 => ⟨ρ, M, rfl, h0⟩
  | d :: ds, ρ, M, h, h0 => by
    obtain ⟨ρ1, ρ2, M2, e1, e2, h2⟩ := h d List.mem_cons_self ρ M h0
    obtain ⟨ρ', M', e3, h3⟩ := loop_inv I (xs := ds) (fun d hd => h d (List.mem_cons_of_mem _ hd)) h2
    refine ⟨ρ', M', ?_, h3⟩
    unfold loopD
    rw [e1]
    rcases e2 with e2 | e2 <;> (dsimp only; rw [e2]; exact e3)
theorem loop_invN {g : TgD} {body : FS} (I : Nat → Ro → Mem → Prop) : ∀ {xs : List D} {ρ : Ro} {M : Mem} (k : Nat), (∀ i d, xs[i]? = some d → ∀ ρ M, I (k + i) ρ M → ∃ ρ1 ρ2 M2, g d ρ = some ρ1 ∧ (body ρ1 M = .ok (.nx ρ2) M2 ∨ body ρ1 M = .ok (.ct ρ2) M2) ∧ I (k + i + 1) ρ2 M2) → I k ρ M →
    ∃ ρ' M', loopD g body xs ρ M = .ok (.nx ρ') M' ∧ I (k + xs.length) ρ' M'
  | [], ρ, M, k, _, h0 => ⟨ρ, M, rfl, h0⟩
  | d :: ds, ρ, M, k, h, h0 => by
    obtain ⟨ρ1, ρ2, M2, e1, e2, h2⟩ := h 0 d rfl ρ M h0
    obtain ⟨ρ', M', e3, h3⟩ := loop_invN I (xs := ds) (k + 1) (fun i d hd ρ M hi => by
      have := h (i + 1) d (by simpa using hd) ρ M (by rw [show k + (i + 1) = k + 1 + i by omega]; exact hi)
      rw [show k + (i + 1) = k + 1 + i by omega] at this
      exact this) h2
    refine ⟨ρ', M', ?_, by rw [List.length_cons, show k + (ds.length + 1) = k + 1 + ds.length by omega]; exact h3⟩
    unfold loopD
    rw [e1]
    rcases e2 with e2 | e2 <;> (dsimp only; rw [e2]; exact e3)
theorem lcD_inv {g : TgD} {t : FT} {f : FE} {ρ : Ro} (I : Mem → Prop) (P : D → Prop) : ∀ {xs : List D} {M : Mem}, (∀ d ∈ xs, ∀ M, I M → ∃ ρ1 b M1, g d ρ = some ρ1 ∧ t ρ1 M = .ok b M1 ∧ I M1 ∧ (b = true → ∃ y M2, f ρ1 M1 = .ok y M2 ∧ P y ∧ I M2)) → I M →
    ∃ ys M', lcD g t f ρ xs M = .ok ys M' ∧ (∀ y ∈ ys, P y) ∧ I M' ∧ ys.length ≤ xs.length
  | [], M, _, h0 => ⟨[], M, rfl, fun _ h => (nomatch h), h0, Nat.le_refl _⟩
  | d :: ds, M, h, h0 => by
    obtain ⟨ρ1, b, M1, e1, e2, h1, hb⟩ := h d List.mem_cons_self M h0
    have hr := fun M => lcD_inv (g := g) (t := t) (f := f) (ρ := ρ) I P (xs := ds) (M := M) fun d hd => h d (List.mem_cons_of_mem _ hd)
    cases b with
    | false =>
      obtain ⟨ys, M', e3, p3, i3, l3⟩ := hr M1 h1
      refine ⟨ys, M', ?_, p3, i3, Nat.le_succ_of_le l3⟩
      unfold lcD
      rw [e1]
      dsimp only
      rw [e2]
      exact e3
    | true =>
      obtain ⟨y, M2, e4, p4, i4⟩ := hb rfl
      obtain ⟨ys, M', e3, p3, i3, l3⟩ := hr M2 i4
      refine ⟨y :: ys, M', ?_, fun z hz => ?_, i3, Nat.succ_le_succ l3⟩
      · unfold lcD
        rw [e1]
        dsimp only
        rw [e2]
        simp only [Out.noX, Out.bind_ok, if_pos]
        rw [e4]
        simp only [Out.noX, Out.bind_ok]
        rw [e3]
        rfl
      · rcases List.mem_cons.mp hz with q | q
        · rw [q]; exact p4
        · exact p3 z q
/-- a comprehension whose turns change nothing: a filter, then a map -/
theorem lcD_pure {g : TgD} {t : FT} {f : FE} {ρ : Ro} {M : Mem} (p : D → Bool) (v : D → D) : ∀ {xs : List D}, (∀ d ∈ xs, ∃ ρ1, g d ρ = some ρ1 ∧ t ρ1 M = .ok (p d) M ∧ (p d = true → f ρ1 M = .ok (v d) M)) →
    lcD g t f ρ xs M = .ok ((xs.filter p).map v) M
  | [], _ => rfl
  | d :: ds, h => by
    obtain ⟨ρ1, e1, e2, e3⟩ := h d List.mem_cons_self
    have ih := lcD_pure (g := g) (t := t) (f := f) (ρ := ρ) (M := M) p v (xs := ds) fun d hd => h d (List.mem_cons_of_mem _ hd)
    unfold lcD
    rw [e1]
    dsimp only
    rw [e2]
    cases hp : p d with
    | false =>
      simp only [Out.noX, Out.bind_ok, List.filter_cons, hp]
      exact ih
    | true =>
      simp only [Out.noX, Out.bind_ok, if_pos, List.filter_cons, hp]
      rw [e3 hp]
      simp only [Out.noX, Out.bind_ok]
      rw [ih]
      rfl
/-! ### how numbers are reckoned -/
theorem mul_ok {i j : Int} {M : Mem} (h : mulC i j) : gMul (.int i) (.int j) M = .ok (.int (i * j)) M := if_pos h
theorem div_ok {i j : Int} {M : Mem} (h : CDivW i j) : gDiv (.int i) (.int j) M = .ok (.int (i / j)) M := if_pos h
theorem mod_ok {i j : Int} {M : Mem} (h : 0 < j) : gMod (.int i) (.int j) M = .ok (.int (i % j)) M := if_pos h
theorem pow_ok {i j : Int} {M : Mem} (h : powC i j) : gPow (.int i) (.int j) M = .ok (.int (i ^ j.toNat)) M := if_pos h
/-! ### texts by their signs -/
abbrev cs (z : Str) : List Nat := z.cps.toList
theorem cs_app (a b : Str) : cs (a ++ b) = cs a ++ cs b := by
  show (Str.append a b).cps.toList = _
  simp [Str.append, cs]
theorem cs_len (z : Str) : z.length = (cs z).length := by simp [Str.length, cs]
theorem cs_cut (z : Str) (lo hi : Option Int) : cs (cutS z lo hi) = cutD (cs z) lo hi := by
  unfold cutS cutD cs
  simp [Str.length]
theorem cut_len {α : Type} (xs : List α) (lo hi : Option Int) : (cutD xs lo hi).length ≤ xs.length := by
  unfold cutD
  rw [List.length_take, List.length_drop]
  omega
theorem cut_mem {α : Type} {xs : List α} {lo hi : Option Int} {x : α} (h : x ∈ cutD xs lo hi) : x ∈ xs := List.mem_of_mem_drop (List.mem_of_mem_take h)
theorem cs_join {sep : Str} (hs : cs sep = []) : ∀ ys : List Str, cs (Txt.join sep ys) = (ys.map cs).flatten := by
  intro ys
  rw [TL.join_eq]
  induction ys with
  | nil => rfl
  | cons x r ih =>
    cases r with
    | nil => simp [Str.join]
    | cons y r =>
      show cs (x ++ sep ++ Str.join sep (y :: r)) = _
      rw [cs_app, cs_app, hs, ih]
      simp
theorem mul_l {i j : Int} (h : -(2 ^ 64) < i ∧ i < 2 ^ 64) : mulC i j := .inl (.inl h)
theorem mul_r {i j : Int} (h : -(2 ^ 64) < j ∧ j < 2 ^ 64) : mulC i j := .inl (.inr h)
end Den
/-! Den11: lists that change (append, pop, list(...)), text[::-1], text.upper(), is of bools, three names at once. -/
namespace Den
open PySem PySem.Spec PyProof.Rows L2
section
variable {X : Cx} {E : XK} {a b c e o : Expr} {es : List Expr} {fa fb fc F : FE} {fg : FA} {pos : Pos} {st : Stmt}
/-! ### is, is not of bools -/
@[simp] def gIsB (f : Bool → Bool) : G2 := fun x y M => match x, y with
  | .bl a, .bl b => .ok (.bl (f (decide (a = b)))) M
  | _, _ => .no
theorem o_isB : OpR X (compareOp .Is) (rD2 X.K E (gIsB fun b => b)) := by
  refine opr_imp op_isBl fun x y H Q ⟨μ, Hf, Fr, M, d1, d2, r1, r2, s, p⟩ => ?_
  unfold gIsB at p
  split at p
  · cases r1; cases r2; exact ⟨_, _, rfl, rfl, p.now s _ (.bl _)⟩
  · exact p.elim
theorem o_isnotB : OpR X (compareOp .IsNot) (rD2 X.K E (gIsB fun b => !b)) := by
  refine opr_imp op_notBl fun x y H Q ⟨μ, Hf, Fr, M, d1, d2, r1, r2, s, p⟩ => ?_
  unfold gIsB at p
  split at p
  · cases r1; cases r2; exact ⟨_, _, rfl, rfl, p.now s _ (.bl _)⟩
  · exact p.elim
/-! ### three names at once -/
@[simp] def sPar3 (i j l : Nat) (fg : FA) : FS := fun ρ M => (fg ρ M).bind fun ds M1 => match ds with
  | [x, y, z] => .ok (.nx (((ρ.set i (some x)).set j (some y)).set l (some z))) M1
  | _ => .no
theorem ds_par3 {i j l : Nat} (h : PS X st (tPar3 i j l (taF X.K E fg))) : DS X E st (sPar3 i j l fg) := by
  refine ps_imp h fun N σ H ⟨μ, Hf, Fr, ρ, M, r, s, p⟩ => ?_
  refine ⟨μ, Hf, Fr, ρ, M, r, s, p.split.weak fun ds μ1 Hf1 H1 M1 e1 m1 s1 p1 vs rs => ?_⟩
  split at p1
  · cases rs with
    | cons r1 t => cases t with
      | cons r2 t => cases t with
        | cons r3 t => cases t; exact ⟨_, _, _, rfl, p1.now s1 _ ((((r.mono e1 m1).put i r1).put j r2).put l r3)⟩
  · exact p1.elim
/-! ### text.upper() -/
@[simp] def eUpper (F : FE) : FE := fun ρ M => (F ρ M).bind fun x M1 => match x with
  | .str z => if z.length ≤ lineD then .ok (.str (Txt.upper z)) M1 else .no
  | _ => .no
theorem de_upper {apos : Pos} (ho : DE X E o F) (hbase : attributeBase o "upper" X.env (eval o X.env) = eval o X.env := by rfl) (hline : (apos.endLine == pos.line) = true := by rfl) :
    DE X E (.Call (.Attribute o "upper" apos) [] [] pos) (eUpper F) := by
  refine pe_imp (pe_upper ho hbase hline) fun σ H Q ⟨μ, Hf, Fr, ρ, M, r, s, p⟩ => ?_
  refine ⟨μ, Hf, Fr, ρ, M, r, s, p.split.weak fun x μ1 Hf1 H1 M1 e1 m1 s1 p1 v1 r1 => ?_⟩
  split at p1
  · split at p1
    · rename_i hz
      cases r1
      exact ⟨⟨_, rfl⟩, _, rfl, rfl, Nat.le_trans hz (by unfold lineD; decide), p1.now s1 _ (.str _)⟩
    · exact p1.elim
  · exact p1.elim
/-! ### list.append, list.pop -/
theorem RepAll.snoc {K : Kf} {μ : List Addr} {H : Hp} {v : V} {d : D} (r : Rep K μ H v d) : ∀ {vs : List V} {ds : List D}, RepAll K μ H vs ds → RepAll K μ H (vs ++ [v]) (ds ++ [d])
  | _, _, .nil => .cons r .nil
  | _, _, .cons q t => .cons q (RepAll.snoc r t)
@[simp] def gAppend (o d : D) (M : Mem) : Out D := match o with
  | .loc n => match M[n]? with
    | some (some xs) => if xs.length + 1 ≤ lineD then .ok .non (M.set n (some (xs ++ [d]))) else .no
    | _ => .no
  | _ => .no
@[simp] def locOk (o : D) (M : Mem) : Bool := match o with
  | .loc n => match M[n]? with
    | some (some _) => true
    | _ => false
  | _ => false
@[simp] def eAppend (fo fa : FE) : FE := fun ρ M => (fo ρ M).bind fun o M1 => if locOk o M1 = true then (fa ρ M1).bind fun d M2 => gAppend o d M2 else .no
@[simp] def gPop (o i : D) (M : Mem) : Out D := match o, i with
  | .loc n, .int k => match M[n]? with
    | some (some xs) => if -1000000 ≤ k ∧ k ≤ 1000000 then match ixN xs.length k with
      | some j => match xs[j]? with
        | some d => .ok d (M.set n (some (xs.eraseIdx j)))
        | none => .no
      | none => .no
      else .no
    | _ => .no
  | _, _ => .no
@[simp] def ePop (fo fa : FE) : FE := fun ρ M => (fo ρ M).bind fun o M1 => if locOk o M1 = true then (fa ρ M1).bind fun d M2 => gPop o d M2 else .no
/-- the value of a changing list, known by its number, stays so behind whatever the argument does, if the number still is one -/
theorem loc_list {K : Kf} {μ : List Addr} {Hf Fr H : Hp} {M : Mem} {n : Nat} {xs : List D} {v : V} (s : SR K μ Hf Fr H M) (hM : M[n]? = some (some xs)) (r : Rep K μ Hf v (.loc n)) :
    ∃ a vs, v = .ref a ∧ μ[n]? = some a ∧ H a = some (.lst vs) ∧ RepAll K μ Hf vs xs := by
  cases r with
  | loc q =>
    obtain ⟨a, vs, h1, h2, h3, h4, h5⟩ := s.cell _ _ hM
    rw [q] at h1; cases h1
    exact ⟨_, _, rfl, q, h4, h5⟩
theorem locOk_ty {K : Kf} {μ : List Addr} {Hf Fr H : Hp} {M : Mem} {v : V} {d : D} (s : SR K μ Hf Fr H M) (r : Rep K μ Hf v d) (h : locOk d M = true) : tyV K "list" v H := by
  unfold locOk at h
  split at h
  · split at h
    · rename_i xs hM
      obtain ⟨a, vs, rfl, _, q, _⟩ := loc_list s hM r
      exact .inl ⟨rfl, _, SqL.of q⟩
    · cases h
  · cases h
theorem de_append {apos : Pos} (ho : DE X E o fa) (ha : DE X E e fb)
    (hbase : attributeBase o "append" X.env (eval o X.env) = eval o X.env := by rfl)
    (hfew : ((backTo pos (starEach [e] X.env)).all (fun x => !x.1) && (backToKw pos (keywordEach [] X.env)).all (fun x => x.1.isSome)
      && decide ([e].length + ([] : List Keyword).length + (if ([] : List Keyword).isEmpty then 0 else 1) < 30)) = true := by rfl)
    (hline : (apos.endLine == pos.line) = true := by rfl) (hs : starEach [e] X.env = (false, eval e X.env) :: starEach [] X.env := by rfl) (hplain : (backTo pos (starEach [] X.env)).any (·.1) = false := by rfl) :
    DE X E (.Call (.Attribute o "append" apos) [e] [] pos) (eAppend fa fb) := by
  refine pe_imp (pe_bm PySem.F.plainAttrs_list PySem.F.slot_list_append PySem.F.type_list_append mt_append ho (pa_cons ha pa_nil hs) hbase hfew hline hs hplain) fun σ H Q ⟨μ, Hf, Fr, ρ, M, r, s, p⟩ => ?_
  refine ⟨μ, Hf, Fr, ρ, M, r, s, p.split.weak fun x μ1 Hf1 H1 M1 e1 m1 s1 p1 v1 r1 => ?_⟩
  split at p1
  · rename_i hk
    refine ⟨locOk_ty s1 r1 hk, μ1, Hf1, Fr, ρ, M1, r.mono e1 m1, s1, p1.split.weak fun y μ2 Hf2 H2 M2 e2 m2 s2 p2 v2 r2 => ?_⟩
    unfold gAppend at p2
    split at p2
    · split at p2
      · rename_i n _ xs hM
        split at p2
        · rename_i hz
          obtain ⟨a, vs, rfl, ha, q, t⟩ := loc_list s2 hM (Rep.mono e2 m2 _ _ r1)
          refine ⟨a, vs, v2, rfl, rfl, q, ?_, p2.now (s2.turn hM ha (t.snoc r2)) _ .non⟩
          have := line_le hz
          rw [t.length]
          omega
        · exact p2.elim
      · exact p2.elim
    · exact p2.elim
  · exact p1.elim
theorem de_pop {apos : Pos} (ho : DE X E o fa) (ha : DE X E e fb)
    (hbase : attributeBase o "pop" X.env (eval o X.env) = eval o X.env := by rfl)
    (hfew : ((backTo pos (starEach [e] X.env)).all (fun x => !x.1) && (backToKw pos (keywordEach [] X.env)).all (fun x => x.1.isSome)
      && decide ([e].length + ([] : List Keyword).length + (if ([] : List Keyword).isEmpty then 0 else 1) < 30)) = true := by rfl)
    (hline : (apos.endLine == pos.line) = true := by rfl) (hs : starEach [e] X.env = (false, eval e X.env) :: starEach [] X.env := by rfl) (hplain : (backTo pos (starEach [] X.env)).any (·.1) = false := by rfl) :
    DE X E (.Call (.Attribute o "pop" apos) [e] [] pos) (ePop fa fb) := by
  refine pe_imp (pe_bm PySem.F.plainAttrs_list PySem.F.slot_list_pop PySem.F.type_list_pop mt_popAt ho (pa_cons ha pa_nil hs) hbase hfew hline hs hplain) fun σ H Q ⟨μ, Hf, Fr, ρ, M, r, s, p⟩ => ?_
  refine ⟨μ, Hf, Fr, ρ, M, r, s, p.split.weak fun x μ1 Hf1 H1 M1 e1 m1 s1 p1 v1 r1 => ?_⟩
  split at p1
  · rename_i hk
    refine ⟨locOk_ty s1 r1 hk, μ1, Hf1, Fr, ρ, M1, r.mono e1 m1, s1, p1.split.weak fun y μ2 Hf2 H2 M2 e2 m2 s2 p2 v2 r2 => ?_⟩
    unfold gPop at p2
    split at p2
    · split at p2
      · rename_i n k _ xs hM
        split at p2
        · rename_i hz
          split at p2
          · rename_i j hj
            split at p2
            · rename_i d hd
              obtain ⟨a, vs, rfl, ha, q, t⟩ := loc_list s2 hM (Rep.mono e2 m2 _ _ r1)
              cases r2
              obtain ⟨w, hw, rw⟩ := t.at hd
              refine ⟨a, vs, k, j, w, rfl, rfl, q, by omega, by omega, by rw [t.length]; exact (ixN_seq hj).1, hw, p2.now (s2.turn hM ha (t.erase j)) _ rw⟩
            · exact p2.elim
          · exact p2.elim
        · exact p2.elim
      · exact p2.elim
    · exact p2.elim
  · exact p1.elim
/-! ### list(...) as a list that may change -/
@[simp] def gListM : GA := fun ds M => match ds with
  | [.str z] => if z.length ≤ lineD then .ok (.loc M.length) (M ++ [some (signs z)]) else .no
  | [.tup xs] => .ok (.loc M.length) (M ++ [some xs])
  | [d] => match itemsD d M with
    | some xs => .ok (.loc M.length) (M ++ [some xs])
    | none => .no
  | _ => .no
theorem c_listM (hc : X.calm = true) : CallR X (.type "list") (rA X.K E gListM) := by
  intro pins s σ H xs us Q I rv ⟨μ, Hf, Fr, M, ds, rs, sr, p⟩
  unfold gListM at p
  split at p
  · rename_i z
    split at p
    · rename_i hz
      cases rs with
      | cons r t =>
        cases t; cases r
        obtain ⟨u, rfl, t, rfl⟩ := vals1 rv
        refine call_list_str (I.ok.hd hc) z t (line_le hz) fun h' tk acc' c' kp hl hi => ?_
        have hf := I.hok.fresh (Nat.le_refl s.heap.objs.size)
        refine ⟨.ref s.heap.objs.size, upd H s.heap.objs.size (.lst (z.cps.toList.map fun c => V.str ⟨#[c]⟩)), ?_, rfl, p.newLoc sr hf (signs_rep _)⟩
        refine I.laid (t' := tk) kp (Nat.le_refl _) ⟨by rw [List.length_map]; exact line_le hz, acc'.toList, c', ?_, by simpa using hl⟩
        have i1 : acc'.size = z.cps.size := hi.1
        refine vals_signs (by simp [i1]) fun j cc u h1 h2 => ?_
        obtain ⟨c2, t2, g1, g2⟩ := hi.2 j u (by simpa using h2)
        rw [Array.getElem?_toList, g1] at h1
        cases h1
        exact ⟨t2, g2⟩
    · exact p.elim
  · rename_i xs
    cases rs with
    | cons r t =>
      cases t
      cases r with
      | tup q t => exact call_list_of pins s σ H _ us Q I rv ⟨_, _, rfl, .inr (same_t sr.ex q), fun l hl => p.newLoc sr hl t⟩
  · split at p
    · rename_i xs hx
      cases rs with
      | cons r t =>
        cases t
        obtain ⟨a, vs, rfl, q, t⟩ := items_of sr r hx
        exact call_list_of pins s σ H _ us Q I rv ⟨_, _, rfl, .inl q, fun l hl => p.newLoc sr hl t⟩
    · exact p.elim
  · exact p.elim
/-! ### text[::-1] -/
def backS (z : Str) : Str := ⟨z.cps.toList.reverse.toArray⟩
theorem rev_idx (n : Nat) : Builtin.Str.strSliceIndices none none (-1) n = (List.range n).reverse := by
  unfold Builtin.Str.strSliceIndices
  show sliceRange ((n : Int) - 1) (-1) (-1) = _
  rw [PySem.W.krv_sliceRange, PySem.W.krv_range]
theorem rev_pick (z : Str) : ((Builtin.Str.strSliceIndices none none (-1) z.length).filterMap (z.cps[·]?)).toArray = (backS z).cps := by
  rw [rev_idx, List.filterMap_reverse]
  show ((List.range z.cps.size).filterMap (z.cps[·]?)).reverse.toArray = _
  rw [PySem.W.krv_all]
  rfl
@[simp] def eRev (F : FE) : FE := fun ρ M => (F ρ M).bind fun x M1 => match x with
  | .str z => if z.length ≤ lineD then .ok (.str (backS z)) M1 else .no
  | _ => .no
def tRevS (te : TE) : TE := fun σ H Q => te σ H fun x H1 => ∃ z, x = .str z ∧ z.length ≤ sizeLine ∧ Q (.str (backS z)) H1
theorem pe_revS {e : Expr} {te : TE} {k : Nat} {p1 p2 p3 pos : Pos} (he : PE X e te) : PE X (.Subscript e (.Slice none none (some (.UnaryOp .USub (.Constant (.int 1) k p1) p2)) p3) pos) (tRevS te) := by
  refine ⟨fun pins s σ H Q I h => ?_⟩
  refine Subscript_ (thn (he.run pins s σ H _ I h) fun v s1 ⟨x, H1, I1, r1, q1⟩ => ?_)
  obtain ⟨z, ex, hz, q⟩ := q1
  subst ex
  obtain ⟨t, rfl⟩ := r1
  have hst : PO X (some (.UnaryOp .USub (.Constant (.int 1) k p1) p2)) (tPart (tUn (rU fun i => .int (-i)) (tC (.int 1)))) := po_some (pe_un un_neg pe_int)
  refine wpAny_Slice (thn (po_none.run pins s1 σ H1 (fun o H2 => o = none ∧ H2 = H1) I1 ⟨rfl, rfl⟩) fun vl s2 ⟨l, H2, I2, pl, el, e2⟩ => ?_)
  subst el e2
  refine thn (po_none.run pins s2 σ H2 (fun o H3 => o = none ∧ H3 = H2) I2 ⟨rfl, rfl⟩) fun vu s3 ⟨u, H3, I3, pu, eu, e3⟩ => ?_
  subst eu e3
  refine thn (hst.run pins s3 σ H3 (fun o H4 => o = some (-1) ∧ H4 = H3) I3 ⟨1, rfl, -1, rfl, rfl, rfl⟩) fun vs s4 ⟨o, H4, I4, ps, eo, e4⟩ => ?_
  subst eo e4
  have I5 : Inv X pins σ H4 { s4 with heap := s4.heap.push { cls := .type "slice", data := .fields #[vl, vu, vs] } } := I4.kept (t' := s4.toks) fun b ob q => Heap.get?_push_of_some _ q
  obtain ⟨l, rfl, hl⟩ := IsPart.raw pl
  obtain ⟨u, rfl, hu⟩ := IsPart.raw pu
  obtain ⟨w, rfl, hw⟩ := IsPart.raw ps
  show wpAny (model X.prog X.w) X.A (subscriptTail e (.Slice none none (some (.UnaryOp .USub (.Constant (.int 1) k p1) p2)) p3) (.str z t) (.ref s4.heap.objs.size)) (EP X pins σ Q) X.xe _
  refine tail_any (ops := [.str z t, .ref s4.heap.objs.size]) (typeIs_str _ _ _) F.slot_str_getitem.lookup ?_ (by with_unfolding_all rfl)
  refine wpAny_getItem_str_slice (l := l) (u := u) (st := w) ⟨_, Heap.get?_push_size _ rfl, rfl, rfl⟩ ?_ ?_
  · rw [hw]; rfl
  · have e1 : sliceMade z t l u w = Made.str (backS z) := by
      have e2 : slicePicked z l u w = Builtin.Str.strSliceIndices none none (-1) z.length := by
        unfold slicePicked
        rw [hl, hu, hw]
        rfl
      unfold sliceMade
      rw [hw, if_neg (by simp), e2, rev_pick]
    rw [e1]
    refine ⟨?_, .str _, H4, I5.tok _, ⟨_, rfl⟩, q⟩
    have : (backS z).length = z.length := by
      show z.cps.toList.reverse.toArray.size = z.cps.size
      simp
    rw [this]
    exact hz
theorem de_rev {k : Nat} {p1 p2 p3 : Pos} (he : DE X E e F) : DE X E (.Subscript e (.Slice none none (some (.UnaryOp .USub (.Constant (.int 1) k p1) p2)) p3) pos) (eRev F) := by
  refine pe_imp (pe_revS he) fun σ H Q ⟨μ, Hf, Fr, ρ, M, r, s, p⟩ => ?_
  refine ⟨μ, Hf, Fr, ρ, M, r, s, p.split.weak fun x μ1 Hf1 H1 M1 e1 m1 s1 p1 v1 r1 => ?_⟩
  split at p1
  · split at p1
    · rename_i hz
      cases r1
      exact ⟨_, rfl, line_le hz, p1.now s1 _ (.str _)⟩
    · exact p1.elim
  · exact p1.elim
end
end Den
namespace Den
open PySem PySem.Spec PyProof.Rows L2
/-! ### a dict against a text, None -/
open PySem.SeqAt in
theorem dict_declines (l : Addr) (o : Obj) (v : Value) (T : String) (hr : ∀ s : Shared, s.TypeIs v T) (hT : isSubtype (.type T) (.type "dict") = pure false) :
  Meets (Builtin.«dict.__eq__» { pos := [Value.ref l, v] }) fun _ R s =>
    (s.heap.get? l = some o ∧ o.cls = .type "dict") ∧ R (Except.ok (Flow.ret Value.notImplemented)) s := by
  refine Meets.of_wp fun prog w A R s h => ?_
  obtain ⟨⟨hl, hc⟩, h⟩ := h
  wp_delta
  wp_delta
  refine wpAny_bind ?_
  unfold Builtin.Dict.dictSlotArgs
  refine wpAny_bind (wpAny_notOrdered_dict ⟨o, hl, hc⟩ ?_)
  refine wpAny_bind ?_
  unfold slotArgs
  refine wpAny_ite_false rfl (wpAny_ite_false rfl (wpAny_pure (wpAny_pure ?_)))
  refine wpAny_bind (wpAny_isInstance (b := false) (hr s) hT ?_)
  refine wpAny_ite_true rfl ?_
  exact wpAny_bind (wpAny_rule (wpAny_pure ⟨_, rfl, h⟩))
open PySem.SeqAt in
theorem str_declines (b : Str) (u : Tok) (l : Addr) (o : Obj) : Meets (Builtin.«str.__eq__» { pos := [Value.str b u, Value.ref l] }) fun _ R s =>
    (s.heap.get? l = some o ∧ ∃ es n, o.data = .dict es n) ∧ R (Except.ok (Flow.ret Value.notImplemented)) s := by
  refine Meets.of_wp fun prog w A R s h => ?_
  obtain ⟨⟨hl, hd0⟩, h⟩ := h
  wp_delta
  unfold Builtin.Str.strCompare
  refine wpAny_bind (wpAny_bind ?_)
  unfold slotArgs
  refine wpAny_ite_false rfl (wpAny_ite_false rfl (wpAny_pure (wpAny_bind ?_)))
  unfold Builtin.Str.textOf
  refine wpAny_bind (wpAny_pure (wpAny_pure (wpAny_pure (wpAny_bind ?_))))
  refine wpAny_bind (wpAny_load hl ?_)
  obtain ⟨es, n, hd⟩ := hd0
  rw [hd]
  exact wpAny_pure (wpAny_bind (wpAny_rule (wpAny_pure ⟨_, rfl, h⟩)))
open PySem.SeqAt in
theorem eqAt_str_dict {A : Around} {s : Shared} {l : Addr} {o : Obj} (b : Str) (u : Tok) (ho : s.heap.get? l = some o) (hc : o.cls = .type "dict") (hd0 : ∃ es n, o.data = .dict es n) (hu : A.units < cLine) : EqAt A s (Value.str b u) (Value.ref l) false := by
  intro prog w E Q h
  refine wpAny_holding (wpAny_ite_split (fun hab => absurd (eq_of_beq hab) fun a => nomatch a) fun x => wpAny_bind ?_)
  refine rc_eq_decline_or (k := false) (typeIs_str s b u) ⟨o, ho, hc⟩ (by decide) F.sub_dict_str F.slot_str_eq F.slot_dict_eq_refl (fun Q' hq => ?_) (fun Q' hq => ?_) (fun Q' hq => wpAny_of_eq rfl hq) (Or.inr hu) ?_
  · exact call_meets F.slot_str_eq (typeIs_str s b u) F.entry_str_eq (F.args_str_eq_2 _ _) (str_declines b u l o) ⟨⟨ho, hd0⟩, hq⟩
  · exact call_meets F.slot_dict_eq_refl ⟨o, ho, hc⟩ F.entry_dict_eq (F.args_dict_eq_2 _ _) (dict_declines l o (.str b u) "str" (fun s => typeIs_str s b u) F.sub_str_dict) ⟨⟨ho, hc⟩, hq⟩
  · exact wpAny_truthy_bool h
open PySem.SeqAt in
theorem eqAt_none_dict {A : Around} {s : Shared} {l : Addr} {o : Obj} (ho : s.heap.get? l = some o) (hc : o.cls = .type "dict") (hu : A.units < cLine) : EqAt A s Value.none (Value.ref l) false := by
  intro prog w E Q h
  refine wpAny_holding (wpAny_ite_split (fun hab => absurd (eq_of_beq hab) fun a => nomatch a) fun x => wpAny_bind ?_)
  refine rc_eq_decline_or (k := false) rfl ⟨o, ho, hc⟩ (by decide) F.sub_dict_NoneType F.slot_NoneType_eq F.slot_dict_eq_refl (fun Q' hq => ?_) (fun Q' hq => ?_) (fun Q' hq => wpAny_of_eq rfl hq) (Or.inr hu) ?_
  · exact call_gives F.slot_NoneType_eq rfl F.entry_NoneType_eq (F.args_NoneType_eq_2 _ _) (NoneType___eq___none_ref_0 l) hq
  · exact call_meets F.slot_dict_eq_refl ⟨o, ho, hc⟩ F.entry_dict_eq (F.args_dict_eq_2 _ _) (dict_declines l o .none "NoneType" (fun s => rfl) F.sub_NoneType_dict) ⟨⟨ho, hc⟩, hq⟩
  · exact wpAny_truthy_bool h
section
variable {X : Cx} {pins : List (Addr × Obj)} {σ : L2.St} {H : Hp} {s : Shared} {a : Addr} {E : XK}
theorem tup_at {xs : List V} (I : Inv X pins σ H s) (h : SqT X.K H a xs) : ∃ us : Array Value, s.heap.IsTuple a us ∧ Vals xs us.toList := by
  rcases h with (z | ⟨o, z⟩) | ⟨o, its, n, z, c, d, l, r⟩
  · obtain ⟨hl, us, rv, o, hg, hc, n, hd⟩ := I.hok a _ z
    exact ⟨us.toArray, ⟨o, hg, hc, n, hd⟩, by simpa using rv⟩
  · obtain ⟨hg, hl, us, rv, o, hg2, hc, n, hd⟩ := I.hok a _ z
    exact ⟨us.toArray, ⟨o, hg2, hc, n, hd⟩, by simpa using rv⟩
  · exact ⟨its, ⟨o, I.kIn a o z, c, n, d⟩, r⟩
theorem lst_at {xs : List V} (I : Inv X pins σ H s) (h : H a = some (.lst xs)) : ∃ us : Array Value, s.heap.IsList a us ∧ Vals xs us.toList := by
  obtain ⟨hl, us, n, rv, hg⟩ := I.hok a _ h
  exact ⟨us.toArray, ⟨_, hg, rfl, n, rfl⟩, by simpa using rv⟩
theorem dct_at {kvs : List (L2.Key × V)} (I : Inv X pins σ H s) (h : H a = some (.dK kvs)) : ∃ o, s.heap.get? a = some o ∧ o.cls = .type "dict" ∧ ∃ es n, o.data = .dict es n := by
  obtain ⟨hs, hl, kv, _, o, es, ep, hg, he, hd, _⟩ := I.hok a _ h
  exact ⟨o, hg, he.1, es, ep, hd⟩
@[simp] def vOk : V → Bool
  | .non => true | .str _ => true | _ => false
@[simp] def dOk : D → Bool
  | .non => true | .str _ => true | _ => false
@[simp] def nflat : D → Bool
  | .lst _ => true | .tup _ => true | .dct _ _ => true | _ => false
def Big (K : Kf) (H : Hp) (a : Addr) : Prop := (∃ l, H a = some (.lst l)) ∨ (∃ l, SqT K H a l) ∨ ∃ kvs, H a = some (.dK kvs)
theorem in1_units (A : Around) : A.in1.units = A.units + 1 := by first | rfl | simp [Around.in1, Around.units]
theorem eqAt_big {A : Around} (hu : A.units < cLine) (I : Inv X pins σ H s) (h : Big X.K H a) {z : V} {y : Value} (rz : RelV z y) (hz : vOk z = true) : SeqAt.EqAt A s y (.ref a) false := by
  have two : y = .none ∨ ∃ b u, y = .str b u := by
    cases z with
    | non => exact .inl rz
    | str b => obtain ⟨t, e⟩ := rz; exact .inr ⟨b, t, e⟩
    | _ => cases hz
  rcases h with ⟨l, h⟩ | ⟨l, h⟩ | ⟨kvs, h⟩
  · obtain ⟨us, hl, _⟩ := lst_at I h
    rcases two with rfl | ⟨b, u, rfl⟩
    · exact SeqAt.EqAt.none_list hl hu
    · exact SeqAt.EqAt.str_list b u hl hu
  · obtain ⟨us, hl, _⟩ := tup_at I h
    rcases two with rfl | ⟨b, u, rfl⟩
    · exact SeqAt.EqAt.none_tuple hl hu
    · exact SeqAt.EqAt.str_tuple b u hl hu
  · obtain ⟨o, ho, hc, hd⟩ := dct_at I h
    rcases two with rfl | ⟨b, u, rfl⟩
    · exact eqAt_none_dict ho hc hu
    · exact eqAt_str_dict b u ho hc hd hu
theorem vals_mem : ∀ {xs : List V} {us : List Value}, Vals xs us → ∀ y ∈ us, ∃ z ∈ xs, RelV z y
  | _, _, .nil, y, h => by cases h
  | _, _, .cons r t, y, h => by
    rcases List.mem_cons.mp h with rfl | h
    · exact ⟨_, List.mem_cons_self, r⟩
    · obtain ⟨z, h1, h2⟩ := vals_mem t y h
      exact ⟨z, List.mem_cons_of_mem _ h1, h2⟩
theorem op_inB (hu : X.A.units + 64 < cLine) : OpR X (compareOp .In) (fun x y H Q => ∃ a p xs, x = .ref a ∧ y = .ref p ∧ SqT X.K H p xs ∧ xs.all vOk = true ∧ Big X.K H a ∧ Q (.bl false) H) := by
  rintro pins s σ H x y v u Q I rx ry ⟨a, p, xs, rfl, rfl, hS, hx, hb, q⟩
  obtain rfl : v = .ref a := rx
  obtain rfl : u = .ref p := ry
  obtain ⟨us, ht, rv⟩ := tup_at I hS
  refine SeqAt.in_tupleAt (e := fun _ => false) ht (fun y hy => ?_) ?_
  · obtain ⟨z, h1, h2⟩ := vals_mem rv y (by simpa using hy)
    exact eqAt_big (by rw [in1_units]; omega) I hb h2 (List.all_eq_true.mp hx z h1)
  · have e : (us.any fun _ => false) = false := by simp
    rw [e]
    exact ⟨.bl false, H, I, rfl, q⟩
open PySem.SeqAt in
theorem op_eqB (hu : X.A.units + 64 < cLine) : OpR X (compareOp .Eq) (fun x y H Q => ∃ a kvs z, x = .ref a ∧ y = .str z ∧ H a = some (.dK kvs) ∧ Q (.bl false) H) := by
  rintro pins s σ H x y v u Q I rx ry ⟨a, kvs, z, rfl, rfl, hS, q⟩
  obtain rfl : v = .ref a := rx
  obtain ⟨t, rfl⟩ := ry
  obtain ⟨o, ho, hc, hd⟩ := dct_at I hS
  show wpAny _ _ (richCompare .Eq (.ref a) (.str z t)) _ _ _
  refine rc_eq_decline_or (k := false) ⟨o, ho, hc⟩ (typeIs_str s z t) (by decide) F.sub_str_dict F.slot_dict_eq F.slot_str_eq_refl (fun Q' hq => ?_) (fun Q' hq => ?_) (fun Q' hq => wpAny_of_eq rfl hq) (Or.inr (by omega)) ⟨.bl false, H, I, rfl, q⟩
  · exact call_meets F.slot_dict_eq_refl ⟨o, ho, hc⟩ F.entry_dict_eq (F.args_dict_eq_2 _ _) (dict_declines a o (.str z t) "str" (fun s => typeIs_str s z t) F.sub_str_dict) ⟨⟨ho, hc⟩, hq⟩
  · exact call_meets F.slot_str_eq (typeIs_str s z t) F.entry_str_eq (F.args_str_eq_2 _ _) (str_declines z t a o) ⟨⟨ho, hd⟩, hq⟩
/-! ### in and ==, as data -/
@[simp] def gInX : G2 := fun x y M => if nflat x = true then (match y with
  | .tup xs => if xs.all dOk = true then .ok (.bl false) M else .no
  | _ => .no) else gInS (fun b => b) x y M
theorem rep_vok {K : Kf} {μ : List Addr} {H : Hp} : ∀ {vs : List V} {ds : List D}, RepAll K μ H vs ds → ds.all dOk = true → vs.all vOk = true
  | _, [], h, _ => by cases h; rfl
  | _, d :: ds, h, q => by
    cases h with
    | cons r t =>
      rw [List.all_cons, Bool.and_eq_true] at q ⊢
      refine ⟨?_, rep_vok t q.2⟩
      cases r <;> first | rfl | (cases q.1)
theorem rep_big {K : Kf} {μ : List Addr} {Hf Fr H : Hp} {M : Mem} {v : V} {d : D} (s : SR K μ Hf Fr H M) (r : Rep K μ Hf v d) (h : nflat d = true) : ∃ a, v = .ref a ∧ Big K H a := by
  cases r with
  | lst q t => exact ⟨_, rfl, .inl ⟨_, s.ex _ _ q⟩⟩
  | tup q t => exact ⟨_, rfl, .inr (.inl ⟨_, same_t s.ex q⟩)⟩
  | dct q k t => exact ⟨_, rfl, .inr (.inr ⟨_, s.ex _ _ q⟩)⟩
  | _ => cases h
theorem o_inX (hu : X.A.units + 64 < cLine) : OpR X (compareOp .In) (rD2 X.K E gInX) := by
  refine opr_imp ((o_in (E := E)).or (op_inB hu)) fun x y H Q ⟨μ, Hf, Fr, M, d1, d2, r1, r2, s, p⟩ => ?_
  unfold gInX at p
  split at p
  · rename_i hn
    split at p
    · rename_i xs
      split at p
      · rename_i hx
        cases r2 with
        | tup q t =>
          obtain ⟨a, rfl, hb⟩ := rep_big s r1 hn
          exact .inr ⟨a, _, _, rfl, rfl, same_t s.ex q, rep_vok t hx, hb, p.now s _ (.bl _)⟩
      · exact p.elim
    · exact p.elim
  · exact .inl ⟨μ, Hf, Fr, M, d1, d2, r1, r2, s, p⟩
@[simp] def gEqX : G2 := fun x y M => match x, y with
  | .dct _ _, .str _ => .ok (.bl false) M
  | x, y => gEqv (fun b => b) x y M
theorem o_eqX (hu : X.A.units + 64 < cLine) : OpR X (compareOp .Eq) (rD2 X.K E gEqX) := by
  refine opr_imp ((o_eq (E := E) hu).or (op_eqB hu)) fun x y H Q ⟨μ, Hf, Fr, M, d1, d2, r1, r2, s, p⟩ => ?_
  unfold gEqX at p
  split at p
  · cases r2
    cases r1 with
    | dct q k t => exact .inr ⟨_, _, _, rfl, rfl, s.ex _ _ q, p.now s _ (.bl _)⟩
  · exact .inl ⟨μ, Hf, Fr, M, d1, d2, r1, r2, s, p⟩
end
end Den
namespace Den
open PySem PySem.Spec PyProof.Rows L2
/-! ### defs that need no word of the guards -/
section
variable {P : Program} {w : World} {K : Kf} {mg : Str → Option Value} {base : Heap}
theorem fn0_of {x qual : Str} {st : Stmt} {f : Addr} {fd : FuncData} {N ps : List Str} {k : Nat} {body : FS} (F : Fun K x qual st f fd) (S : FnScope N ps (defScope st))
    (hb : ∀ (cdv : Value) (A : Around) (outer : List Env) (s : Shared) (H : Hp) (E : XK), Room k (A.deeper (envOfC qual (defScope st) s.heap.objs.size f cdv)) →
      DSs (cxOf CX0 P w K mg base N qual (defScope st) f cdv A outer s H E).nox EN (defBody st) body) : FnOk P w K mg base CX0 (k + 1) f fd ps (spD K ps.length (defF N.length body)) := by
  refine F.ok S (fun vs H Q E h => h.1) fun cdv A outer s H vs Q E hr h => ⟨_, hb cdv A outer s H E hr, ?_⟩
  obtain ⟨hl, μ, Hf, Fr, M, ds, ra, sr, z⟩ := h
  refine ⟨μ, Hf, Fr, _, M, start_rep ra, sr, (post_noX z).weak fun f μ1 Hf1 H1 M1 e1 m1 s1 p1 => ?_⟩
  cases f with
  | rt d => exact fun v r1 => p1.now s1 v r1
  | nx ρ => exact fun _ _ => p1.now s1 _ .non
  | bk ρ => exact p1.elim
  | ct ρ => exact p1.elim
theorem FnG.of0 {k : Nat} {f : Addr} {fd : FuncData} {ps : List Str} {F : GA} (G : FnOk P w K mg base CX0 k f fd ps (spD K ps.length F)) : FnG P w K mg base CX0 k f fd ps F :=
  ⟨fun A outer s H args us vs Q E hr _ e0 hbd rv h => G.run A outer s H args us vs Q E hr e0 hbd rv h⟩
end
structure Cal0 (P : Program) (w : World) (K : Kf) (mg : Str → Option Value) (base : Heap) (k : Nat) (x : Str) (n : Nat) (g : GA) : Prop where
  ex : ∃ (f : Addr) (fd : FuncData) (ps : List Str), mg x = some (.ref f) ∧ PySem.W.keepIn K (.ref f) = true ∧ Binds K fd ps [] ∧ ps.length = n ∧ FnOk P w K mg base CX0 k f fd ps (spD K ps.length g)
section
variable {X : Cx} {E : XK} {a b c e o : Expr} {es rest : List Expr} {fa fb fc F : FE} {ft fu : FT} {fg : FA} {pos : Pos} {k : Nat} {x : Str} {p : Pos} {n : Nat} {g : GA}
theorem de_callN0 (C : Cal0 X.prog X.w X.K X.mg X.base k x n g) (hr : Room k X.A) (hg : Gl X x) (ha : DA X E (e :: es) fg) (hdb : (x == ("__debug__" : Str)) = false := by decide)
    (he : starEach (e :: es) X.env = (false, eval e X.env) :: starEach es X.env := by rfl) (hpl : (backTo pos (starEach es X.env)).any (·.1) = false := by rfl) : DE X E (.Call (.Name x p) (e :: es) [] pos) (eCall g [] n fg) := by
  obtain ⟨f, fd, ps, hm, hk, hb, rfl, G⟩ := C.ex
  exact pe_imp (pe_call (E := E) G hr hg hm hk hb .nil (fun _ _ _ _ _ _ _ y => y.elim) ha hdb he hpl) fun σ H Q h => call_go dflt_nil h
/-! ### tuple(..), a sum that may change -/
@[simp] def gTuple : GA := fun ds M => match ds with
  | [.tup xs] => .ok (.tup xs) M
  | [d] => match itemsD d M with
    | some xs => .ok (.tup xs) M
    | none => .no
  | _ => .no
theorem c_tuple : CallR X (.type "tuple") (rA X.K E gTuple) := by
  refine callr_imp call_tuple_of fun vs H Q ⟨μ, Hf, Fr, M, ds, rs, s, p⟩ => ?_
  unfold gTuple at p
  split at p
  · cases rs with
    | cons r t =>
      cases t
      cases r with
      | tup q t => exact ⟨_, _, rfl, .inr ⟨same_t s.ex q, p.now s _ (.tup q t)⟩⟩
  · split at p
    · rename_i xs hx
      cases rs with
      | cons r t =>
        cases t
        obtain ⟨a, us, rfl, q, t⟩ := items_of s r hx
        exact ⟨_, _, rfl, .inl ⟨q, fun l hl => p.new s hl fun e => rep_tup t e⟩⟩
    · exact p.elim
  · exact p.elim
@[simp] def lstD (d : D) (M : Mem) : Option (List D) := match d with
  | .lst xs => some xs
  | .loc n => match M[n]? with
    | some (some xs) => some xs
    | _ => none
  | _ => none
theorem lst_of {K : Kf} {μ : List Addr} {Hf Fr H : Hp} {M : Mem} {v : V} {d : D} {ds : List D} (s : SR K μ Hf Fr H M) (r : Rep K μ Hf v d) (h : lstD d M = some ds) : ∃ a vs, v = .ref a ∧ H a = some (.lst vs) ∧ RepAll K μ Hf vs ds := by
  unfold lstD at h
  split at h
  · cases h
    cases r with
    | lst q t => exact ⟨_, _, rfl, s.ex _ _ q, t⟩
  · split at h
    · rename_i xs hM
      cases h
      obtain ⟨a, vs, rfl, _, q, t⟩ := loc_list s hM r
      exact ⟨_, _, rfl, q, t⟩
    · cases h
  · cases h
@[simp] def gAddM : G2 := fun x y M => match lstD x M, lstD y M with
  | some xs, some ys => if xs.length + ys.length ≤ lineD then .ok (.loc M.length) (M ++ [some (xs ++ ys)]) else .no
  | _, _ => .no
theorem o_addM : OpR X (binaryOp .Add) (rD2 X.K E gAddM) := by
  refine opr_imp op_cat fun x y H Q ⟨μ, Hf, Fr, M, d1, d2, r1, r2, s, p⟩ => ?_
  unfold gAddM at p
  split at p
  · rename_i xs ys h1 h2
    split at p
    · rename_i hz
      obtain ⟨a1, v1, rfl, q1, t1⟩ := lst_of s r1 h1
      obtain ⟨a2, v2, rfl, q2, t2⟩ := lst_of s r2 h2
      exact ⟨_, _, _, _, rfl, rfl, q1, q2, line_le (by rw [t1.length, t2.length]; exact hz), fun q hq => p.newLoc s hq (t1.app t2)⟩
    · exact p.elim
  · exact p.elim
/-- + of two tuples too, the first one not empty -/
@[simp] def gAddT : G2 := fun x y M => match x, y with
  | .tup (i :: is), .tup j => if (i :: is).length + j.length ≤ lineD then .ok (.tup ((i :: is) ++ j)) M else .no
  | x, y => gAdd x y M
theorem o_addT : OpR X (binaryOp .Add) (rD2 X.K E gAddT) := by
  refine opr_imp ((o_add (E := E)).or op_catT) fun x y H Q ⟨μ, Hf, Fr, M, d1, d2, r1, r2, s, p⟩ => ?_
  unfold gAddT at p
  split at p
  · rename_i i is j
    split at p
    · rename_i hz
      cases r1 with
      | tup q1 t1 =>
        cases r2 with
        | tup q2 t2 =>
          refine .inr ⟨_, _, _, _, rfl, rfl, same_t s.ex q1, same_t s.ex q2, ?_, line_le (by rw [t1.length, t2.length]; exact hz), fun e => ?_, fun _ l hl => p.new s hl fun e => rep_tup (t1.app t2) e⟩
          · intro e
            rw [e] at t1
            cases t1
          · subst e
            cases t2
            rw [List.append_nil] at p
            exact p.now s _ (.tup q1 t1)
    · exact p.elim
  · exact .inl ⟨μ, Hf, Fr, M, d1, d2, r1, r2, s, p⟩
/-- o[i], y = e1, e2 -/
@[simp] def sParIx (fa fb fo fj : FE) (j : Nat) : FS := fun ρ M => (fa ρ M).bind fun x M1 => (fb ρ M1).bind fun y M2 => (fo ρ M2).bind fun o M3 => (fj ρ M3).bind fun i M4 => (setM o i x ρ M4).bind fun f M5 => match f with
  | .nx ρ1 => .ok (.nx (ρ1.set j (some y))) M5
  | _ => .no
theorem ds_parIx {oe ie e1 e2 : Expr} {fo fj : FE} {j : Nat} {y : Str} {p1 p2 p3 p4 : Pos} {k1 k2 : Nat} (h1 : DA X E [e1, e2] (aCons fa (aCons fb aNil))) (ho : DE X E oe fo) (hi : DE X E ie fj) (hy : PG X (.Name y p2) (gName j)) (hc : X.calm = true)
    (hs : swapsWithSole [.Tuple [.Subscript oe ie p1, .Name y p2] k1 p3] (.Tuple [e1, e2] k2 p4) pos.line X.env = pure false := by rfl) (hw : swappedStores [.Tuple [.Subscript oe ie p1, .Name y p2] k1 p3] (.Tuple [e1, e2] k2 p4) X.env = pure none := by rfl)
    (hq : (assignEach [.Tuple [.Subscript oe ie p1, .Name y p2] k1 p3] X.env).map (·.2) = [assign (.Tuple [.Subscript oe ie p1, .Name y p2] k1 p3) X.env] := by rfl)
    (hl1 : (assignEach [.Subscript oe ie p1, .Name y p2] X.env).length = 2 := by rfl) (hl2 : (assignEach [.Subscript oe ie p1, .Name y p2] X.env).findIdx? (·.1) = none := by rfl)
    (hm1 : (assignEach [.Subscript oe ie p1, .Name y p2] X.env).map (·.2) = assign (.Subscript oe ie p1) X.env :: (assignEach [.Name y p2] X.env).map (·.2) := by rfl)
    (hm2 : (assignEach [.Name y p2] X.env).map (·.2) = assign (.Name y p2) X.env :: (assignEach [] X.env).map (·.2) := by rfl)
    (ha : ∀ v, assign (.Subscript oe ie p1) X.env v = (do
      let ov ← holding [v] (eval oe X.env)
      let iv ← holding [v, ov] (eval ie X.env)
      standAt p1
      holding [v, ov, iv] (setItem ov iv v)
      release [v, ov, iv] []) := by intro _; rfl) : DS X E (.Assign [.Tuple [.Subscript oe ie p1, .Name y p2] k1 p3] (.Tuple [e1, e2] k2 p4) pos) (sParIx fa fb fo fj j) := by
  refine ps_imp (ps_asg (de_tup h1) (pg_tup hc (pgs_cons (pg_sub ho hi set_list ha) (pgs_cons hy pgs_nil hm2) hm1) hl1 hl2) hs hw hq) fun N σ H ⟨μ, Hf, Fr, ρ, M, r, s, p⟩ => ?_
  refine ⟨μ, Hf, Fr, ρ, M, r, s, ?_⟩
  unfold sParIx at p
  have p' : Post X.K E ((fa ρ M).bind fun x M1 => (fb ρ M1).bind fun y M2 => .ok (D.tup [x, y]) M2) μ Hf Fr (fun d μ1 Hf1 _ M2 => match d with
    | D.tup [x, y] => Post X.K E ((fo ρ M2).bind fun o M3 => (fj ρ M3).bind fun i M4 => (setM o i x ρ M4).bind fun f M5 => match f with
      | .nx ρ1 => .ok (.nx (ρ1.set j (some y))) M5
      | _ => .no) μ1 Hf1 Fr (kS X.K N)
    | _ => False) := by
    cases hfa : fa ρ M with
    | ok x M1 =>
      rw [hfa] at p
      simp only [Out.bind_ok] at p ⊢
      cases hfb : fb ρ M1 with
      | ok y M2 =>
        rw [hfb] at p
        simp only [Out.bind_ok] at p ⊢
        exact fun H' Hf' μ' e m s' => p.later e m
      | exc x M => rw [hfb] at p; exact p
      | no => rw [hfb] at p; exact p
    | exc x M => rw [hfa] at p; exact p
    | no => rw [hfa] at p; exact p
  have eqt : eTup (aCons fa (aCons fb aNil)) ρ M = (fa ρ M).bind fun x M1 => (fb ρ M1).bind fun y M2 => .ok (D.tup [x, y]) M2 := by
    cases hfa : fa ρ M with
    | ok x M1 =>
      cases hfb : fb ρ M1 with
      | ok y M2 => simp [hfa, hfb, line1k]
      | exc x M => simp [hfa, hfb]
      | no => simp [hfa, hfb]
    | exc x M => simp [hfa]
    | no => simp [hfa]
  rw [eqt]
  refine p'.weak fun d μ1 Hf1 H1 M1 e1 m1 s1 p1 v rv => ?_
  split at p1
  · rename_i x y
    cases rv with
    | tup q t =>
      have hlen := t.length
      cases t with
      | cons rx t => cases t with
        | cons ry t =>
          cases t
          refine ⟨_, _, rfl, same_t s1.ex q, rfl, ?_⟩
          refine ⟨_, _, rfl, μ1, Hf1, Fr, ρ, M1, r.mono e1 m1, s1, p1.split.weak fun od μ2 Hf2 H2 M2 e2 m2 s2 p2 ov ro => ?_⟩
          refine ⟨μ2, Hf2, Fr, ρ, M2, (r.mono e1 m1).mono e2 m2, s2, p2.split.weak fun id μ3 Hf3 H3 M3 e3 m3 s3 p3 iv ri => ?_⟩
          unfold setM at p3
          split at p3
          · split at p3
            · rename_i xs hM
              split at p3
              · rename_i jj hj
                cases ri
                obtain ⟨a, us, rfl, q, h4, h5⟩ := loc_list s3 hM (Rep.mono e3 m3 _ _ ro)
                have rd : RepAll X.K μ3 Hf3 (us.set jj _) (xs.set jj _) := h5.set jj (Rep.mono e3 m3 _ _ (Rep.mono e2 m2 _ _ rx))
                refine ⟨_, _, _, jj, rfl, rfl, h4, by rw [h5.length]; exact hj, _, _, rfl, ?_⟩
                show gNil [] _ _ N.nx
                unfold gNil
                first | exact ⟨rfl, p3.now (s3.turn hM q rd) _ ((((r.mono e1 m1).mono e2 m2).mono e3 m3).put _ (Rep.mono e3 m3 _ _ (Rep.mono e2 m2 _ _ ry)))⟩ | exact p3.now (s3.turn hM q rd) _ ((((r.mono e1 m1).mono e2 m2).mono e3 m3).put _ (Rep.mono e3 m3 _ _ (Rep.mono e2 m2 _ _ ry)))
              · exact p3.elim
            · exact p3.elim
          · exact p3.elim
  · exact p1.elim
end
end Den
namespace Den
open PySem PySem.Spec PyProof.Rows L2
/-! ### frames -/
theorem SR.unfr {K : Kf} {μ : List Addr} {Hf Fr H : Hp} {M : Mem} {q : Addr} {u : HO} (hq : Fr q = none) (sr : SR K μ Hf (upd Fr q u) H M) : SR K μ Hf Fr H M :=
  ⟨sr.ex, fun b u' e' => sr.fr b u' (by rw [upd_ne (ne_of_none e' hq)]; exact e'), fun b u' e' => sr.dis b u' (by rw [upd_ne (ne_of_none e' hq)]; exact e'), sr.len, sr.nd, fun n ds e' => by
    obtain ⟨a, vs, h1, h2, h3, h4, h5⟩ := sr.cell n ds e'
    have ha : a ≠ q := fun z => by subst z; rw [upd_same] at h3; cases h3
    exact ⟨a, vs, h1, h2, by rw [upd_ne ha] at h3; exact h3, h4, h5⟩, sr.old⟩
theorem Post.fr {α : Type} {K : Kf} {E : XK} {o : Out α} {μ : List Addr} {Hf Fr : Hp} {k : α → List Addr → Hp → Hp → Mem → Prop} {q : Addr} {u : HO} (hq : Fr q = none) (p : Post K E o μ Hf Fr k) : Post K E o μ Hf (upd Fr q u) k := by
  cases o with
  | ok a M => exact fun H' Hf' μ' e m s => p H' Hf' μ' e m (s.unfr hq)
  | exc x M => exact fun dx H' Hf' μ' e m s => p dx H' Hf' μ' e m (s.unfr hq)
  | no => exact p
section
variable {X : Cx} {E : XK} {a b c e o : Expr} {es rest : List Expr} {fa fb fc F : FE} {ft fu : FT} {fg : FA} {pos : Pos} {k : Nat} {x : Str} {p : Pos} {n : Nat} {g : GA}
/-! ### try: y = e; except C: .. -/
@[simp] def sTry (i : Nat) (C : Addr) (F : FE) (hd : Mem → Out Fl) : FS := fun ρ M => match F ρ M with
  | .ok d M1 => .ok (.nx (ρ.set i (some d))) M1
  | .exc x M1 => match x.cls with
    | .ref a => if a = C then hd M1 else .no
    | _ => .no
  | .no => .no
theorem none_rep {K : Kf} {μ : List Addr} {H : Hp} (σ : L2.St) : ERep K μ H σ (List.replicate σ.length none) :=
  ⟨by simp, fun i d e => by rw [List.getElem?_replicate] at e; split at e <;> cases e⟩
theorem ds_try {i : Nat} {n y : Str} {np p1 p2 pos' : Pos} {C : Addr} {b₀ : Stmt} {suite : List Stmt} {hd : Mem → Out Fl}
    (hs : X.stack = X.env :: X.outer) (hf : X.env.frame = some X.env.locals) (hc : Names X n (.ref C)) (hex : PySem.W.exmOne X.K (.ref C) (.ref C) = some true)
    (hps : ∀ te pn xe, PE (X.tr pn xe) e te → PS (X.tr pn xe) (.Assign [.Name y p1] e p2) (tAsg te (gName i)))
    (he : ∀ (E' : XK) (pn : List (Addr × Obj)) (xe : Value → Shared → Prop), Passes (L2.CX X.prog X.w) (X.tr pn xe) E' → DE (X.tr pn xe) E' e F)
    (hsu : ∀ (a : Addr) (oe : Obj) (pn : List (Addr × Obj)), DSs (X.suite a ((a, oe) :: pn)) E (b₀ :: suite) (fun _ M => hd M)) :
    DS X E (.Try [.Assign [.Name y p1] e p2] [.ExceptHandler (some (.Name n np)) none (b₀ :: suite) pos'] [] [] pos) (sTry i C F hd) := by
  refine ps_imp (ps_try_only (tb := fun W => tAsg (teF X.K (fun cls d H => ∀ σ, W cls d σ H) F) (gName i)) (ts := fun _ _ _ => tsF X.K E (fun _ M => hd M)) (Wout := fun _ _ _ _ => False) hs hf hc takes0
    (fun W pn xe tk _ => pss_one (hps _ pn xe (he _ pn xe (passes_call tk fun cls d σ H h => h σ)))) (fun a oe cls d pn _ _ => hsu a oe pn)) fun N σ H ⟨μ, Hf, Fr, ρ, M, r, s, p⟩ => ?_
  refine ⟨μ, Hf, Fr, ρ, M, r, s, ?_⟩
  unfold sTry at p
  cases hF : F ρ M with
  | ok d M1 =>
    rw [hF] at p
    exact fun H' Hf' μ' e m s' v rv => p H' Hf' μ' e m s' _ ((r.mono e m).put i rv)
  | exc xd M1 =>
    rw [hF] at p
    dsimp only at p
    split at p
    · rename_i a ha
      split at p
      · rename_i hC
        subst hC
        intro dx H' Hf' μ' e m s' xr σ'
        rw [ha]
        refine ⟨true, hex, fun _ q _ => ?_, fun z => by cases z⟩
        exact ⟨μ', Hf', Fr, List.replicate σ'.length none, M1, none_rep σ', s', p.later e m⟩
      · exact p.elim
    · exact p.elim
  | no => rw [hF] at p; exact p.elim

/-! ### objects of one class with one field, made of a tuple -/
def mkF (C CX : Addr) (fl : Str) (g : GA) (ds : List D) (M : Mem) : Out D := if ds.length ≤ lineD then (g [.tup ds] M).noX.bind fun d M1 => match d with
  | .bl true => .ok (.ins C [fl] [.tup ds]) M1
  | .bl false => .exc ⟨.ref CX, none⟩ M1
  | _ => .no
  else .no
def spMk (K : Kf) (C CX : Addr) (fl : Str) (g : GA) : Sp := fun vs H Q E => ∃ x dx rest μ Hf Fr M ds, vs = .ref x :: rest ∧ RepAll K μ Hf rest ds ∧ SR K μ Hf (upd Fr x (.ins C dx [])) H M ∧ Fr x = none ∧
  Post K E (mkF C CX fl g ds M) μ Hf Fr (kD K fun v H' => v = .ref x → Q .non H')
def spI (K : Kf) (C CX : Addr) (fl : Str) (g : GA) : Sp := fun vs H Q E => ∃ x dx q μ Hf Fr M ds, vs = [.ref x, .ref q] ∧ Rep K μ Hf (.ref q) (.tup ds) ∧ SR K μ Hf (upd Fr x (.ins C dx [])) H M ∧ Fr x = none ∧
  Post K E (mkF C CX fl g ds M) μ Hf Fr (kD K fun v H' => v = .ref x → Q .non H')
def tInit (K : Kf) (CX : Addr) (fl : Str) (g : GA) (E : XK) : TS :=
  tSeq (tIfS (ttF K EN (tNotF (fTru (eCall g [] 1 (aCons (eVar 1) aNil))))) (fun _ _ H => E (.ref CX) none H) tNext) (sFld K (tVar 0) (tVar 1) fl)
theorem putF_nil {f : Str} {v : V} : putF f v [] = [(f, v)] := by first | rfl | simp [putF]
theorem pure_init {K : Kf} {C CX : Addr} {fl : Str} {g : GA} {vs : List V} {H : Hp} {Q : VK} {E : XK} (cl : Cls K C) (na : NoAttr K C fl) (h : spI K C CX fl g vs H Q E) : tInit K CX fl g E { nx := fun _ H' => Q .non H', rt := Q } (L2.start ["self", "states"] vs) H := by
  obtain ⟨x, dx, q, μ, Hf, Fr, M, ds, rfl, rq, s, hx, p⟩ := h
  unfold mkF at p
  split at p
  · have st : L2.start ["self", "states"] [V.ref x, V.ref q] = [some (V.ref x), some (V.ref q)] := rfl
    rw [st]
    refine ⟨μ, Hf, _, [none, some (.tup ds)], M, ⟨rfl, fun i d e => ?_⟩, s, ?_⟩
    · match i, e with
      | 1, e =>
        have : D.tup ds = d := by simpa using e
        subst this
        exact ⟨_, rfl, rq⟩
    · cases hg : g [.tup ds] M with
      | ok d M1 =>
        rw [hg] at p
        simp only [Out.noX, Out.bind_ok] at p
        cases d with
        | bl b =>
          have ev : tNotF (fTru (eCall g [] 1 (aCons (eVar 1) aNil))) [none, some (.tup ds)] M = .ok (!b) M1 := by
            simp [hg, truD]
          rw [ev]
          intro H' Hf' μ' e m s'
          cases b with
          | true =>
            refine iteF ?_
            have hH : H' x = some (.ins C dx []) := s'.fr x _ upd_same
            refine ⟨_, rfl, _, rfl, x, C, dx, [], rfl, hH, cl, na, by show 0 < 1000; decide, ?_⟩
            rw [putF_nil]
            obtain ⟨s2, e2⟩ := (s'.hideTurn (o' := .ins C dx [(fl, .ref q)])).show hx
            refine p _ _ _ (e.trans e2) m s2 (.ref x) ?_ rfl
            exact .ins upd_same rfl (.cons (Rep.mono (e.trans e2) m _ _ rq) .nil)
          | false =>
            refine iteT ?_
            exact p none H' Hf' μ' e m (s'.unfr hx) rfl
        | _ => exact p.elim
      | exc xd M1 => rw [hg] at p; exact p.elim
      | no => rw [hg] at p; exact p.elim
  · exact p.elim
/-! ### the making of such an object -/
theorem fnr_imp {P : Program} {w : World} {K : Kf} {mg : Str → Option Value} {base : Heap} {CX : CXT} {f : Addr} {sp sp' : Sp} (h : FnR P w K mg base CX k f sp) (i : ∀ vs H Q E, sp' vs H Q E → sp vs H Q E) : FnR P w K mg base CX k f sp' :=
  fun A outer s H us vs Q E hr e0 rv q => h A outer s H us vs Q E hr e0 rv (i _ _ _ _ q)
theorem init_of {P : Program} {w : World} {K : Kf} {mg : Str → Option Value} {base : Heap} {f C CX : Addr} {fl : Str} {name qual : Str} {params : Arguments} {body : List Stmt} {scope : Scope} {dV kV doc pm cdv ct oc : Value} {an od : Option Addr} {osl : Array (Option Value)}
    (lk : List.lookup f K = some ⟨oc, od, .func (PySem.W.fnOf name qual params body scope dV kV doc pm an cdv ct), osl⟩) (hcd : PySem.W.codeIn K cdv qual = true) (S : FnScope ["self", "states"] ["self", "states"] scope)
    (hb : ∀ us rest : List Value, us.length = ["self"].length → bindArgs (PySem.W.fnOf name qual params body scope dV kV doc pm an cdv ct) { pos := us ++ rest } = (do let t ← newTuple rest; pure ((["self"] : List Str).zip us ++ [(("states" : Str), t)])))
    (cl : Cls K C) (na : NoAttr K C fl) (g : GA)
    (hd : ∀ (A : Around) (outer : List Env) (s : Shared) (H : Hp) (E : XK), Room k (A.deeper (envOfC qual scope s.heap.objs.size f cdv)) → PSs (cxOf (L2.CX P w) P w K mg base ["self", "states"] qual scope f cdv A outer s H E) body (tInit K CX fl g E)) :
    FnR P w K mg base (L2.CX P w) (k + 1) f (spMk K C CX fl g) := by
  refine fnr_imp (StX.fn_star (ps := ["self"]) (pv := "states") (sp := spI K C CX fl g) lk hcd S StX.cxUp hb fun A outer s H vs Q E hr h => ⟨_, hd A outer s H E hr, pure_init cl na h⟩) ?_
  rintro vs H Q E ⟨x, dx, rest, μ, Hf, Fr, M, ds, rfl, ra, s, hx, p⟩
  have hl : rest.length ≤ sizeLine := by
    unfold mkF at p
    split at p
    · rename_i hz; exact line_le (by rw [ra.length]; exact hz)
    · exact p.elim
  refine ⟨[.ref x], rest, rfl, rfl, hl, fun q hq => ?_⟩
  obtain ⟨s2, e2⟩ := s.froz (o := .tup rest) hq
  exact ⟨x, dx, q, μ, _, Fr, M, ds, rfl, rep_tup ra e2, s2, hx, p.later e2 (List.prefix_refl _)⟩
/-! ### c(*xs), c a class that a name holds -/
theorem pe_clsStar {CX : CXT} {C fI : Addr} {sp : Sp} {c : Str} {te tc : TE} {p2 : Pos} (Mk : Mk X.K C fI) (G : FnR X.prog X.w X.K X.mg X.base CX k fI sp) (hr : Room (k + 1) X.A) (hx : Passes CX X E) (hc : PE X (.Name c p) tc) (he : PE X e te)
    (hst : starEach [.Starred e p2] X.env = [(true, eval e X.env)] := by rfl) : PE X (.Call (.Name c p) [.Starred e p2] [] pos) (fun σ H Q => tc σ H fun y H1 => y = .ref C ∧ te σ H1 fun z H2 => ∃ a xs, z = .ref a ∧ (SqT X.K H2 a xs ∨ SqL X.K H2 a xs) ∧
      ∀ x dx, H2 x = none → H2 dx = none → dx ≠ x → sp (.ref x :: xs) (upd (upd H2 dx (.own x)) x (.ins C dx [])) (fun v H3 => v = .non ∧ Q (.ref x) H3) E) := by
  constructor
  intro pins s σ H Q I h
  refine wpAny_Call_Name_kw (thn (hc.run pins s σ H _ I h) ?_)
  rintro u s1 ⟨y, H1, I1, ry, rfl, h1⟩
  obtain rfl : u = .ref C := ry
  refine PySem.W.callWith_S (first := []) (h₀ := X.base) I1.ok.mod.kin Mk.kp (thn (he.run pins s1 σ H1 _ I1 h1) ?_) hst
  rintro v s2 ⟨z, H2, I2, rz, a, xs, rfl, hq, h2⟩
  obtain rfl : v = .ref a := rz
  refine StX.star_any I2 hq fun us s' I3 rv => ⟨I3.kIn, ?_⟩
  exact StX.run_makeR Mk G hr hx I3 rv h2
/-- of(cls, states) -/
def gOf (C CX : Addr) (fl : Str) (g : GA) : GA := fun ds M => match ds with
  | [.fn c, d] => if c = C then match tyD d with
    | some t => if isiB t "tuple" = true then match d with
      | .tup xs => mkF C CX fl g xs M
      | _ => .no
      else .exc ⟨.ref CX, none⟩ M
    | none => .no
    else .no
  | _ => .no
def tOf (K : Kf) (C CX : Addr) (fl : Str) (g : GA) (E : XK) : TS :=
  tSeq (tIfS (ttF K EN (tNotF (fTru (eApp gIsi (aCons (eVar 1) (aCons (eTy "tuple") aNil)))))) (fun _ _ H => E (.ref CX) none H) tNext)
    (tRet fun σ H Q => tVar 0 σ H fun y H1 => y = .ref C ∧ tVar 1 σ H1 fun z H2 => ∃ a xs, z = .ref a ∧ (SqT K H2 a xs ∨ SqL K H2 a xs) ∧
      ∀ x dx, H2 x = none → H2 dx = none → dx ≠ x → spMk K C CX fl g (.ref x :: xs) (upd (upd H2 dx (.own x)) x (.ins C dx [])) (fun v H3 => v = .non ∧ Q (.ref x) H3) E)
theorem pure_of {K : Kf} {C CX : Addr} {fl : Str} {g : GA} {vs : List V} {H : Hp} {Q : VK} {E : XK} (h : spD K 2 (gOf C CX fl g) vs H Q E) : tOf K C CX fl g E { nx := fun _ H' => Q .non H', rt := Q } (L2.start ["cls", "states"] vs) H := by
  obtain ⟨hl, μ, Hf, Fr, M, ds, ra, s, p⟩ := h
  unfold gOf at p
  split at p
  · rename_i c d
    split at p
    · rename_i hc
      subst hc
      cases ra with
      | cons r1 t => cases t with
        | cons r2 t =>
          cases t
          cases r1
          rename_i v2
          have st : L2.start ["cls", "states"] [V.ref c, v2] = [some (V.ref c), some v2] := rfl
          rw [st]
          split at p
          · rename_i t ht
            refine ⟨μ, Hf, Fr, [none, some d], M, ⟨rfl, fun i d' e => ?_⟩, s, ?_⟩
            · match i, e with
              | 1, e =>
                have : d = d' := by simpa using e
                subst this
                exact ⟨_, rfl, r2⟩
            · have ev : tNotF (fTru (eApp gIsi (aCons (eVar 1) (aCons (eTy "tuple") aNil)))) [none, some d] M = .ok (!isiB t "tuple") M := by
                have e1 : gIsi [d, .ty "tuple"] M = .ok (.bl (isiB t "tuple")) M := by
                  show (if "tuple" ∈ tyS then match tyD d with
                    | some t => Out.ok (D.bl (isiB t "tuple")) M
                    | none => Out.no
                    else Out.no) = _
                  rw [if_pos (by decide), ht]
                show ((gIsi [d, .ty "tuple"] M).bind truO).bind _ = _
                rw [e1]
                rfl
              rw [ev]
              intro H' Hf' μ' e m s'
              split at p
              · rename_i hb
                rw [hb]
                refine iteF ?_
                split at p
                · rename_i xs
                  have r2' := Rep.mono e m _ _ r2
                  cases r2' with
                  | tup q t =>
                    refine ⟨_, rfl, rfl, _, rfl, _, _, rfl, .inl (same_t s'.ex q), fun x dx nx nd ne => ?_⟩
                    have frx : Fr x = none := s'.fr.free nx
                    have frd : Fr dx = none := s'.fr.free nd
                    have s3 := s'.hide (o := .own x) nd
                    have s4 := s3.hide (q := x) (o := .ins c dx []) (by rw [upd_ne (Ne.symm ne)]; exact nx)
                    refine ⟨x, dx, _, μ', Hf', upd Fr dx (.own x), M, xs, rfl, t, s4, by rw [upd_ne (Ne.symm ne)]; exact frx, ?_⟩
                    refine ((p.later e m).fr frd).weak fun a μ1 Hf1 H1 M1 _ _ _ w v rv hv => ⟨rfl, ?_⟩
                    subst hv
                    exact w _ rv
                · exact p.elim
              · rename_i hb
                have hb' : isiB t "tuple" = false := by simpa using hb
                rw [hb']
                refine iteT ?_
                exact p none H' Hf' μ' e m s' rfl
          · exact p.elim
    · exact p.elim
  · exact p.elim
/-! ### C.m(e, ..), m a class method -/
@[simp] def eCM (C : Addr) (g : GA) (n : Nat) (fo : FE) (fg : FA) : FE := fun ρ M => (fo ρ M).bind fun d M1 => match d with
  | .fn c => if c = C then (fg ρ M1).bind fun xs M2 => if xs.length + 1 = n then g (.fn C :: xs) M2 else .no else .no
  | _ => .no
theorem fnr_of {P : Program} {w : World} {K : Kf} {mg : Str → Option Value} {base : Heap} {CX : CXT} {f : Addr} {fd : FuncData} {ps : List Str} {sp : Sp} (G : FnOk P w K mg base CX k f fd ps sp) (hb : Binds K fd ps []) : FnR P w K mg base CX k f sp :=
  fun A outer s H us vs Q E hr e0 rv q => by
    have hl := G.len _ _ _ _ q
    refine G.run A outer s H ⟨us, []⟩ us vs Q E hr e0 ?_ rv q
    have := hb s us (e0.mod.kin.keeps fun b o e => (e0.bs b o e).1) (by simpa using rv.length.symm.trans hl)
    simpa using this
theorem de_cmeth {CX : CXT} {C pa fO : Addr} {mc : Value} {m : Str} {fd : FuncData} {ps : List Str} {apos : Pos} {pl : Sem Bool} (ho : DE X E o fa) (r : ClX.CRead X.K C mc) (cm : ClX.CMet X.K C mc m pa fO) (G : FnOk X.prog X.w X.K X.mg X.base CX k fO fd ps (spD X.K n g)) (hb : Binds X.K fd ps []) (hr : Room k X.A) (hx : Passes CX X E) (ha : DA X E (e :: es) fg)
    (hst : starEach (e :: es) X.env = (false, eval e X.env) :: starEach es X.env := by rfl) (hpl : (backTo pos (starEach es X.env)).any (·.1) = false := by rfl)
    (ht : eval (.Call (.Attribute o m apos) (e :: es) [] pos) X.env = (do
      let ov ← eval o X.env
      standAt apos.atName
      let (f, first) ← holding [ov] (getMethod ov m pl)
      callWith pos f first (backTo pos (starEach (e :: es) X.env)) (backToKw pos (keywordEach [] X.env))) := by rfl) :
    DE X E (.Call (.Attribute o m apos) (e :: es) [] pos) (eCM C g n fa fg) := by
  refine pe_imp (ClX.pe_cmeth (E := E) ho r cm (fnr_of G hb) hr hx ha hst hpl ht) fun σ H Q ⟨μ, Hf, Fr, ρ, M, r0, s, p⟩ => ?_
  refine ⟨μ, Hf, Fr, ρ, M, r0, s, p.split.weak fun d μ1 Hf1 H1 M1 e1 m1 s1 p1 v rv => ?_⟩
  split at p1
  · rename_i c
    split at p1
    · rename_i hc
      subst hc
      cases rv
      refine ⟨rfl, μ1, Hf1, Fr, ρ, M1, r0.mono e1 m1, s1, p1.split.weak fun xs μ2 Hf2 H2 M2 e2 m2 s2 p2 vs rs => ?_⟩
      split at p2
      · rename_i hn
        exact ⟨by rw [List.length_cons, rs.length]; exact hn, μ2, Hf2, Fr, M2, _, .cons (.fn _) rs, s2, p2⟩
      · exact p2.elim
    · exact p1.elim
  · exact p1.elim
/-! ### o.f, f a property that reads a field -/
@[simp] def eProp (C : Addr) (fl : Str) (F : FE) : FE := fun ρ M => (F ρ M).bind fun d M1 => match d with
  | .ins c [f] [d'] => if c = C ∧ f = fl then .ok d' M1 else .no
  | _ => .no
theorem de_prop {C pa fG : Addr} {f fl : Str} {fd : FuncData} (ha : DE X E a F) (c : Cls X.K C) (hp : PropOf X.K C f pa fG) (G : FnOk X.prog X.w X.K X.mg X.base CX0 k fG fd ["self"] (getSp C fl)) (hr : Room (k + 1) X.A) (hb : Binds X.K fd ["self"] [])
    (hab : attributeBase a f X.env (eval a X.env) = eval a X.env := by rfl) : DE X E (.Attribute a f pos) (eProp C fl F) := by
  refine pe_imp (pe_prop (E := EN) ha c hp G hr hb .nil (fun _ _ _ _ _ _ _ y => y.elim) hab) fun σ H Q ⟨μ, Hf, Fr, ρ, M, r, s, p⟩ => ?_
  refine ⟨μ, Hf, Fr, ρ, M, r, s, p.split.weak fun d μ1 Hf1 H1 M1 e1 m1 s1 p1 v rv => ?_⟩
  split at p1
  · rename_i c' f' d'
    split at p1
    · rename_i hc
      obtain ⟨rfl, rfl⟩ := hc
      cases rv with
      | ins q k t =>
        rename_i fv
        match fv, k, t with
        | [(f1, v1)], k, t =>
          have e1 : f1 = f' := by simpa using k
          subst e1
          cases t with
          | cons r1 _ =>
            have hq := s1.ex _ _ q
            refine ⟨_, _, _, rfl, hq, _, _, _, _, rfl, hq, ?_, p1.now s1 _ r1⟩
            simp [List.lookup]
    · exact p1.elim
  · exact p1.elim
end
end Den
namespace Den
open PySem PySem.Spec PyProof.Rows L2
section
variable {X : Cx} {E : XK}
/-! ### text * number -/
def mulS (z : Str) (n : Int) : Bool := decide (z.length ≤ 16 ∧ 0 ≤ n ∧ n ≤ 1000)
@[simp] def gMulS : G2 := fun x y M => match x, y with
  | .str z, .int n => if mulS z n = true then .ok (.str (Txt.mul z n)) M else .no
  | _, _ => .no
theorem o_mulS : OpR X (binaryOp .Mult) (rD2 X.K E gMulS) := by
  rintro pins s σ H x y v u Q I rx ry ⟨μ, Hf, Fr, M, d1, d2, r1, r2, sr, p⟩
  unfold gMulS at p
  split at p
  · split at p
    · rename_i z n h
      obtain ⟨h1, h2, h3⟩ := of_decide_eq_true h
      cases r1; cases r2
      obtain ⟨t, rfl⟩ := rx
      obtain ⟨t2, rfl⟩ := ry
      exact PySem.W.KXi.mul rfl h1 (by omega) (by omega) fun t' k _ _ => ⟨.str _, H, I.tok k, ⟨t', rfl⟩, p.now sr _ (.str _)⟩
    · exact p.elim
  · exact p.elim
end
end Den
namespace K05
open PySem PySem.Spec PyProof.Rows L2 Den
section
variable {P : Program} {w : World} {K : Kf} {mg : Str → Option Value} {base : Heap}
abbrev topS (i : Nat) : Stmt := PySem.Challenge.pw_fallsback_k05_whole_forms_of_moves.main.body.getD i (.Pass ⟨0, 0, 0, 0⟩)
abbrev k_ACTS : List D := [.str "output", .str "send", .str "take", .str "work"]
abbrev k_KEEPINGS : List D := [.non, .str "note", .str "save"]
/-- what the module's top has left -/
structure Txt (K : Kf) (mg : Str → Option Value) : Prop where
  b_abs : mg "abs" = none
  b_all : mg "all" = none
  b_bool : mg "bool" = none
  b_int : mg "int" = none
  b_isinstance : mg "isinstance" = none
  b_len : mg "len" = none
  b_list : mg "list" = none
  b_max : mg "max" = none
  b_min : mg "min" = none
  b_range : mg "range" = none
  b_repr : mg "repr" = none
  b_str : mg "str" = none
  b_tuple : mg "tuple" = none
  c_ACTS : ∃ u, mg "ACTS" = some (.ref u) ∧ KTup K u k_ACTS
  c_KEEPINGS : ∃ u, mg "KEEPINGS" = some (.ref u) ∧ KTup K u k_KEEPINGS
  c_MAX_LETTERS : ∃ t, mg "MAX_LETTERS" = some (.int 8 t)
  c_MAX_MOVES : ∃ t, mg "MAX_MOVES" = some (.int 6 t)
  c_MAX_PRICE : ∃ t, mg "MAX_PRICE" = some (.int 9 t)
  c_MAX_STATES : ∃ t, mg "MAX_STATES" = some (.int 6 t)
/-! is_integer -/
abbrev s_is_integer : Stmt := topS 5
abbrev N_is_integer : List Str := ["value"]
theorem sc_is_integer : FnScope N_is_integer ["value"] (defScope s_is_integer) := ⟨rfl, rfl, rfl, by decide +kernel, rfl, by decide +kernel, by decide +kernel⟩
def f_is_integer : FS := (sSeq (sIf (tOrF (fTru (eApp gIsi (aCons (eVar 0) (aCons (eTy "bool") aNil)))) (tNotF (fTru (eApp gIsi (aCons (eVar 0) (aCons (eTy "int") aNil)))))) (sRet (eBool false)) sNx) (sRet (eChain gLt' gLt' (eNeg (eTwo gPow (eInt 10) (eInt 60))) (eVar 0) (eTwo gPow (eInt 10) (eInt 60)))))
def g_is_integer : GA := defF 1 (f_is_integer)
theorem ok_is_integer {f : Addr} {fd : FuncData} (F : Fun K "is_integer" "is_integer" s_is_integer f fd) (T : Txt K mg) : FnOk P w K mg base CX0 1 f fd ["value"] (spD K 1 (g_is_integer)) :=
  fn0_of F sc_is_integer fun cdv A outer s H E hr => by
    unfold f_is_integer
    exact (ds_cons (ds_if (dt_w (dw_or (dt_tru (de_bi c_isi (by rfl) T.b_isinstance (by decide +kernel) (da_cons (de_var (pv 0)) (da_cons (de_ty (by rfl) T.b_bool (by decide +kernel)) da_nil)))) (dw_or1 (dt_not (dt_tru (de_bi c_isi (by rfl) T.b_isinstance (by decide +kernel) (da_cons (de_var (pv 0)) (da_cons (de_ty (by rfl) T.b_int (by decide +kernel)) da_nil)))))))) (ds_one (ds_ret de_bl)) ds_nil) (ds_one (ds_ret (de_chain o_lt o_lt (de_neg (de_two o_pow de_int de_int)) (de_var (pv 0)) (de_two o_pow de_int de_int)))))
/-! is_word -/
abbrev s_is_word : Stmt := topS 7
abbrev N_is_word : List Str := ["value", "letter"]
theorem sc_is_word : FnScope N_is_word ["value"] (defScope s_is_word) := ⟨rfl, rfl, rfl, by decide +kernel, rfl, by decide +kernel, by decide +kernel⟩
def f_is_word : FS := (sSeq (sIf (tOrF (tNotF (fTru (eApp gIsi (aCons (eVar 0) (aCons (eTy "str") aNil))))) (tNotF (fB (eChain gLe' gLe' (eInt 1) (eApp gLen (aCons (eVar 0) aNil)) (eInt 8))))) (sRet (eBool false)) sNx) (sRet (eApp (gAll fun bs => bs.all id) (aCons (eLc (iVal (eVar 0)) (gNm 1) [1] tTrue (eChain gLe' gLe' (eStr "a") (eVar 1) (eStr "z"))) aNil))))
def g_is_word : GA := defF 2 (f_is_word)
theorem ok_is_word {f : Addr} {fd : FuncData} (F : Fun K "is_word" "is_word" s_is_word f fd) (T : Txt K mg) : FnOk P w K mg base CX0 1 f fd ["value"] (spD K 1 (g_is_word)) :=
  fn0_of F sc_is_word fun cdv A outer s H E hr => by
    unfold f_is_word
    exact (ds_cons (ds_if (dt_w (dw_or (dt_not (dt_tru (de_bi c_isi (by rfl) T.b_isinstance (by decide +kernel) (da_cons (de_var (pv 0)) (da_cons (de_ty (by rfl) T.b_str (by decide +kernel)) da_nil))))) (dw_or1 (dt_not (dt_chain o_le o_le de_int (de_bi c_len (by rfl) T.b_len (by decide +kernel) (da_cons (de_var (pv 0)) da_nil)) (de_kintE (by rfl) T.c_MAX_LETTERS)))))) (ds_one (ds_ret de_bl)) ds_nil) (ds_one (ds_ret (de_bi (c_all rfl) (by rfl) T.b_all (by decide +kernel) (da_cons (de_lc rfl sc_is_word.nd (di_val (de_var (pv 0))) (blkOk_by (own := [("letter", 1)]) (N := N_is_word) (sc := defScope s_is_word) (by decide +kernel)) (by rfl) (by decide) (fun _ _ _ _ _ => (dg_name (pg_name (i := 1) sc_is_word.nd rfl (by first | exact Or.inl rfl | exact Or.inr rfl)))) (fun _ _ _ _ _ => dts_nil) (fun _ _ _ _ _ => (de_chain o_le o_le de_str (de_var (pv 1)) de_str))) da_nil)))))
/-! can_have_keeping -/
abbrev s_can_have_keeping : Stmt := topS 19
abbrev N_can_have_keeping : List Str := ["act", "keeping"]
theorem sc_can_have_keeping : FnScope N_can_have_keeping ["act", "keeping"] (defScope s_can_have_keeping) := ⟨rfl, rfl, rfl, by decide +kernel, rfl, by decide +kernel, by decide +kernel⟩
def f_can_have_keeping : FS := (sSeq (sIf (fB (eTwo gEqX (eVar 1) (eStr "note"))) (sRet (eTwo gEqX (eVar 0) (eStr "take"))) sNx) (sRet (eTwo gInX (eVar 1) (eTupC k_KEEPINGS))))
def g_can_have_keeping : GA := defF 2 (f_can_have_keeping)
theorem ok_can_have_keeping {f : Addr} {fd : FuncData} (F : Fun K "can_have_keeping" "can_have_keeping" s_can_have_keeping f fd) (T : Txt K mg) : FnOk P w K mg base CX0 1 f fd ["act", "keeping"] (spD K 2 (g_can_have_keeping)) :=
  fn0_of F sc_can_have_keeping fun cdv A outer s H E hr => by
    unfold f_can_have_keeping
    exact (ds_cons (ds_if (dt_of (o_eqX hr.units) (de_var (pv 1)) de_str (nomark _)) (ds_one (ds_ret (de_cmp (o_eqX hr.units) (de_var (pv 0)) de_str (nomark _)))) ds_nil) (ds_one (ds_ret (de_cmp (o_inX hr.units) (de_var (pv 1)) (de_ktupE (by rfl) T.c_KEEPINGS) (by rfl)))))
/-! _law_stock -/
abbrev s__law_stock : Stmt := topS 28
abbrev N__law_stock : List Str := ["_law_script", "_law_at", "_law_cell", "_law_great", "_law_mixed"]
theorem sc__law_stock : FnScope N__law_stock ["_law_script", "_law_at"] (defScope s__law_stock) := ⟨rfl, rfl, rfl, by decide +kernel, rfl, by decide +kernel, by decide +kernel⟩
def f__law_stock : FS := (sSeq (sSet 2 (eIf (fB (eTwo gLt' (eVar 1) (eApp gLen (aCons (eVar 0) aNil)))) (eTwo gIx (eVar 0) (eVar 1)) (eTwo gAdd (eTwo gMul (eInt 43) (eVar 1)) (eInt 17)))) (sSeq (sSet 3 (eTwo gMod (eApp gInt (aCons (eApp gAbs (aCons (eVar 2) aNil)) aNil)) (eTwo gPow (eTwo gPow (eInt 10) (eInt 60)) (eInt 11)))) (sSeq (sSet 4 (eTwo gAdd (eTwo gAdd (eTwo gAdd (eTwo gMul (eTwo gMod (eApp gInt (aCons (eVar 3) aNil)) (eInt 2147483423)) (eInt 78713)) (eTwo gMul (eInt 6007) (eVar 1))) (eTwo gMul (eInt 29) (eApp gInt (aCons (eTwo gLt' (eVar 2) (eInt 0)) aNil)))) (eInt 53))) (sRet (eLoc (aCons (eApp gMax (aCons (eInt 0) (aCons (eTwo gSub (eVar 3) (eTwo gPow (eInt 10) (eInt 18))) aNil))) (aCons (eTwo gMod (eApp gInt (aCons (eVar 4) aNil)) (eInt 2305843009213693907)) (aCons (eInt 0) aNil))))))))
def g__law_stock : GA := defF 5 (f__law_stock)
theorem ok__law_stock {f : Addr} {fd : FuncData} (F : Fun K "_law_stock" "_law_stock" s__law_stock f fd) (T : Txt K mg) : FnG P w K mg base CX0 1 f fd ["_law_script", "_law_at"] (g__law_stock) :=
  fnG_of F sc__law_stock fun cdv A outer s H E hr hgd => by
    unfold f__law_stock
    exact (ds_cons (ds_set (ps_set (i := 2) sc__law_stock.nd rfl (by first | exact Or.inl rfl | exact Or.inr rfl) (de_ifx (dt_of o_lt (de_var (pv 1)) (de_bi c_len (by rfl) T.b_len (by decide +kernel) (da_cons (de_var (pv 0)) da_nil)) (nomark _)) (de_ix (de_var (pv 0)) (de_var (pv 1))) (de_two o_add (de_two o_mul de_int (de_var (pv 1))) de_int)))) (ds_cons (ds_set (ps_set (i := 3) sc__law_stock.nd rfl (by first | exact Or.inl rfl | exact Or.inr rfl) (de_two o_mod (de_bt c_int (by rfl) T.b_int (by decide +kernel) (da_cons (de_bi c_abs (by rfl) T.b_abs (by decide +kernel) (da_cons (de_var (pv 2)) da_nil)) da_nil)) (de_two o_pow (de_two o_pow de_int de_int) de_int)))) (ds_cons (ds_set (ps_set (i := 4) sc__law_stock.nd rfl (by first | exact Or.inl rfl | exact Or.inr rfl) (de_two o_add (de_two o_add (de_two o_add (de_two o_mul (de_two o_mod (de_bt c_int (by rfl) T.b_int (by decide +kernel) (da_cons (de_var (pv 3)) da_nil)) de_int) de_int) (de_two o_mul de_int (de_var (pv 1)))) (de_two o_mul de_int (de_bt c_int (by rfl) T.b_int (by decide +kernel) (da_cons (de_cmp o_lt (de_var (pv 2)) de_int (nomark _)) da_nil)))) de_int))) (ds_one (ds_ret (de_loc (da_cons (de_bi (c_max rfl) (by rfl) T.b_max (by decide +kernel) (da_cons de_int (da_cons (de_two o_sub (de_var (pv 3)) (de_two o_pow de_int de_int)) da_nil))) (da_cons (de_two o_mod (de_bt c_int (by rfl) T.b_int (by decide +kernel) (da_cons (de_var (pv 4)) da_nil)) de_int) (da_cons de_int da_nil)))))))))
/-! _law_draw -/
abbrev s__law_draw : Stmt := topS 29
abbrev N__law_draw : List Str := ["_law_stock_here", "_law_total", "_law_one", "_law_two", "_law_found"]
theorem sc__law_draw : FnScope N__law_draw ["_law_stock_here", "_law_total"] (defScope s__law_draw) := ⟨rfl, rfl, rfl, by decide +kernel, rfl, by decide +kernel, by decide +kernel⟩
def f__law_draw : FS := (sSeq (sIf (fB (eTwo gGt (eTwo gIx (eVar 0) (eInt 0)) (eInt 0))) (sSeq (sSet 4 (eTwo gMod (eApp gInt (aCons (eTwo gIx (eVar 0) (eInt 0)) aNil)) (eVar 1))) (sSeq (sSetIx (eTwo gDiv (eTwo gIx (eVar 0) (eInt 0)) (eVar 1)) (eVar 0) (eInt 0)) (sRet (eVar 4)))) sNx) (sSeq (sSetIx (eTwo gAdd (eTwo gIx (eVar 0) (eInt 2)) (eInt 1)) (eVar 0) (eInt 2)) (sSeq (sSet 2 (eTwo gMod (eApp gInt (aCons (eTwo gAdd (eTwo gIx (eVar 0) (eInt 1)) (eTwo gMul (eInt 1000357) (eTwo gIx (eVar 0) (eInt 2)))) aNil)) (eInt 2305843009213693951))) (sSeq (sSet 3 (eTwo gAdd (eTwo gMul (eTwo gMod (eApp gInt (aCons (eTwo gMul (eVar 2) (eVar 2)) aNil)) (eInt 2305843009213693921)) (eVar 2)) (eTwo gMul (eInt 9029) (eTwo gIx (eVar 0) (eInt 2))))) (sRet (eTwo gMod (eApp gInt (aCons (eTwo gDiv (eTwo gMod (eApp gInt (aCons (eVar 3) aNil)) (eInt 2305843009213693907)) (eInt 16384)) aNil)) (eVar 1)))))))
def g__law_draw : GA := defF 5 (f__law_draw)
theorem ok__law_draw {f : Addr} {fd : FuncData} (F : Fun K "_law_draw" "_law_draw" s__law_draw f fd) (T : Txt K mg) : FnG P w K mg base CX0 1 f fd ["_law_stock_here", "_law_total"] (g__law_draw) :=
  fnG_of F sc__law_draw fun cdv A outer s H E hr hgd => by
    unfold f__law_draw
    exact (ds_cons (ds_if (dt_of o_gt (de_ix (de_var (pv 0)) de_int) de_int (nomark _)) (ds_cons (ds_set (ps_set (i := 4) sc__law_draw.nd rfl (by first | exact Or.inl rfl | exact Or.inr rfl) (de_two o_mod (de_bt c_int (by rfl) T.b_int (by decide +kernel) (da_cons (de_ix (de_var (pv 0)) de_int) da_nil)) (de_var (pv 1))))) (ds_cons (ds_setIx (de_two o_div (de_ix (de_var (pv 0)) de_int) (de_var (pv 1))) (de_var (pv 0)) de_int) (ds_one (ds_ret (de_var (pv 4)))))) ds_nil) (ds_cons (ds_setIx (de_two o_add (de_ix (de_var (pv 0)) de_int) de_int) (de_var (pv 0)) de_int) (ds_cons (ds_set (ps_set (i := 2) sc__law_draw.nd rfl (by first | exact Or.inl rfl | exact Or.inr rfl) (de_two o_mod (de_bt c_int (by rfl) T.b_int (by decide +kernel) (da_cons (de_two o_add (de_ix (de_var (pv 0)) de_int) (de_two o_mul de_int (de_ix (de_var (pv 0)) de_int))) da_nil)) de_int))) (ds_cons (ds_set (ps_set (i := 3) sc__law_draw.nd rfl (by first | exact Or.inl rfl | exact Or.inr rfl) (de_two o_add (de_two o_mul (de_two o_mod (de_bt c_int (by rfl) T.b_int (by decide +kernel) (da_cons (de_two o_mul (de_var (pv 2)) (de_var (pv 2))) da_nil)) de_int) (de_var (pv 2))) (de_two o_mul de_int (de_ix (de_var (pv 0)) de_int))))) (ds_one (ds_ret (de_two o_mod (de_bt c_int (by rfl) T.b_int (by decide +kernel) (da_cons (de_two o_div (de_two o_mod (de_bt c_int (by rfl) T.b_int (by decide +kernel) (da_cons (de_var (pv 3)) da_nil)) de_int) de_int) da_nil)) (de_var (pv 1)))))))))
/-! _law_spelled -/
abbrev s__law_spelled : Stmt := topS 34
abbrev N__law_spelled : List Str := ["_law_value", "_law_sign"]
theorem sc__law_spelled : FnScope N__law_spelled ["_law_value"] (defScope s__law_spelled) := ⟨rfl, rfl, rfl, by decide +kernel, rfl, by decide +kernel, by decide +kernel⟩
def f__law_spelled : FS := (sSeq (sIf (tOrF (tNotF (fTru (eApp gIsi (aCons (eVar 0) (aCons (eTy "str") aNil))))) (tOrF (fB (eTwo gEq (eApp gLen (aCons (eVar 0) aNil)) (eInt 0))) (fB (eTwo gGt (eApp gLen (aCons (eVar 0) aNil)) (eInt 8))))) (sRet (eBool false)) sNx) (sRet (eTwo gEq (eLc (iVal (eVar 0)) (gNm 1) [1] (fB (eTwo (gInS fun b => !b) (eVar 1) (eStr "abcdefghijklmnopqrstuvwxyz"))) (eVar 1)) (eLst aNil))))
def g__law_spelled : GA := defF 2 (f__law_spelled)
theorem ok__law_spelled {f : Addr} {fd : FuncData} (F : Fun K "_law_spelled" "_law_spelled" s__law_spelled f fd) (T : Txt K mg) : FnG P w K mg base CX0 1 f fd ["_law_value"] (g__law_spelled) :=
  fnG_of F sc__law_spelled fun cdv A outer s H E hr hgd => by
    unfold f__law_spelled
    exact (ds_cons (ds_if (dt_w (dw_or (dt_not (dt_tru (de_bi c_isi (by rfl) T.b_isinstance (by decide +kernel) (da_cons (de_var (pv 0)) (da_cons (de_ty (by rfl) T.b_str (by decide +kernel)) da_nil))))) (dw_or (dt_of (o_eq hr.units) (de_bi c_len (by rfl) T.b_len (by decide +kernel) (da_cons (de_var (pv 0)) da_nil)) de_int (nomark _)) (dw_or1 (dt_of o_gt (de_bi c_len (by rfl) T.b_len (by decide +kernel) (da_cons (de_var (pv 0)) da_nil)) de_int (nomark _)))))) (ds_one (ds_ret de_bl)) ds_nil) (ds_one (ds_ret (de_cmp (o_eq hr.units) (de_lc rfl sc__law_spelled.nd (di_val (de_var (pv 0))) (blkOk_by (own := [("_law_sign", 1)]) (N := N__law_spelled) (sc := defScope s__law_spelled) (by decide +kernel)) (by rfl) (by decide) (fun _ _ _ _ _ => (dg_name (pg_name (i := 1) sc__law_spelled.nd rfl (by first | exact Or.inl rfl | exact Or.inr rfl)))) (fun _ _ _ _ _ => (dts_one (dt_of o_notIn (de_var (pv 1)) de_str (by rfl)))) (fun _ _ _ _ _ => (de_var (pv 1)))) (de_lst da_nil) (nomark _)))))
/-! _law_is_below -/
abbrev s__law_is_below : Stmt := topS 35
abbrev N__law_is_below : List Str := ["_law_value", "_law_most"]
theorem sc__law_is_below : FnScope N__law_is_below ["_law_value", "_law_most"] (defScope s__law_is_below) := ⟨rfl, rfl, rfl, by decide +kernel, rfl, by decide +kernel, by decide +kernel⟩
def f__law_is_below : FS := (sRet (eAnd (eApp gIsi (aCons (eVar 0) (aCons (eTy "int") aNil))) (eAnd (eNot (eApp gIsi (aCons (eVar 0) (aCons (eTy "bool") aNil)))) (eAnd (eTwo gLe' (eInt 0) (eVar 0)) (eTwo gLe' (eVar 0) (eVar 1))))))
def g__law_is_below : GA := defF 2 (f__law_is_below)
theorem ok__law_is_below {f : Addr} {fd : FuncData} (F : Fun K "_law_is_below" "_law_is_below" s__law_is_below f fd) (T : Txt K mg) : FnG P w K mg base CX0 1 f fd ["_law_value", "_law_most"] (g__law_is_below) :=
  fnG_of F sc__law_is_below fun cdv A outer s H E hr hgd => by
    unfold f__law_is_below
    exact (ds_one (ds_ret (de_and (de_bi c_isi (by rfl) T.b_isinstance (by decide +kernel) (da_cons (de_var (pv 0)) (da_cons (de_ty (by rfl) T.b_int (by decide +kernel)) da_nil))) (de_and (de_not (de_bi c_isi (by rfl) T.b_isinstance (by decide +kernel) (da_cons (de_var (pv 0)) (da_cons (de_ty (by rfl) T.b_bool (by decide +kernel)) da_nil)))) (de_and (de_cmp o_le de_int (de_var (pv 0)) (nomark _)) (de_one (de_cmp o_le (de_var (pv 0)) (de_var (pv 1)) (nomark _))))))))
/-! _law_near_parts -/
abbrev s__law_near_parts : Stmt := topS 37
abbrev N__law_near_parts : List Str := ["_law_stock_here", "_law_words", "_law_acts", "_law_kinds", "_law_ends", "_law_costs", "_law_keepings"]
theorem sc__law_near_parts : FnScope N__law_near_parts ["_law_stock_here", "_law_words"] (defScope s__law_near_parts) := ⟨rfl, rfl, rfl, by decide +kernel, rfl, by decide +kernel, by decide +kernel⟩
def f__law_near_parts : FS := (sSeq (sSet 2 (eLst (aCons (eStr "output") (aCons (eStr "send") (aCons (eStr "take") (aCons (eStr "work") (aCons (eStr "Send") (aCons (eStr "save") (aCons (eStr "") (aCons (eStr "take\n") (aCons eNone (aCons (eBool true) (aCons (eInt 0) (aCons (eTup (aCons (eStr "work") aNil)) aNil)))))))))))))) (sSeq (sSet 3 (eLst (aCons eNone (aCons (eTwo gIx (eVar 1) (eInt 0)) (aCons (eTwo gIx (eVar 1) (eInt 1)) (aCons (eStr "") (aCons (eStr "A") (aCons (eTwo gAdd (eTwo gAdd (eTwo gIx (eVar 1) (eInt 0)) (eTwo gIx (eVar 1) (eInt 0))) (eTwo gMulS (eStr "x") (eInt 8))) (aCons (eStr "a b") (aCons (eInt 0) (aCons (eBool true) (aCons (eTup (aCons (eTwo gIx (eVar 1) (eInt 0)) aNil)) (aCons (eLst (aCons (eTwo gIx (eVar 1) (eInt 0)) aNil)) aNil))))))))))))) (sSeq (sSet 4 (eLst (aCons (eInt 0) (aCons (eInt 1) (aCons (eInt 5) (aCons (eInt 6) (aCons (eTwo gSub (eInt 0) (eInt 1)) (aCons (eBool true) (aCons (eBool false) (aCons eNone (aCons (eStr "0") (aCons (eTwo gPow (eInt 10) (eInt 60)) (aCons (eTup (aCons (eInt 0) aNil)) aNil))))))))))))) (sSeq (sSet 5 (eLst (aCons (eInt 0) (aCons (eInt 1) (aCons (eInt 9) (aCons (eInt 10) (aCons (eTwo gSub (eInt 0) (eInt 1)) (aCons (eBool true) (aCons (eBool false) (aCons eNone (aCons (eStr "9") (aCons (eTwo gPow (eInt 10) (eInt 59)) (aCons (eLst (aCons (eInt 0) aNil)) aNil))))))))))))) (sSeq (sSet 6 (eLst (aCons eNone (aCons (eStr "note") (aCons (eStr "save") (aCons (eStr "Note") (aCons (eStr "keep") (aCons (eStr "") (aCons (eBool true) (aCons (eBool false) (aCons (eInt 0) (aCons (eTup (aCons (eStr "save") aNil)) (aCons (eLst (aCons (eStr "note") aNil)) (aCons eD0 aNil)))))))))))))) (sRet (eLst (aCons (eVar 2) (aCons (eVar 3) (aCons (eVar 4) (aCons (eVar 5) (aCons (eVar 6) aNil))))))))))))
def g__law_near_parts : GA := defF 7 (f__law_near_parts)
theorem ok__law_near_parts {f : Addr} {fd : FuncData} (F : Fun K "_law_near_parts" "_law_near_parts" s__law_near_parts f fd) (T : Txt K mg) : FnG P w K mg base CX0 1 f fd ["_law_stock_here", "_law_words"] (g__law_near_parts) :=
  fnG_of F sc__law_near_parts fun cdv A outer s H E hr hgd => by
    unfold f__law_near_parts
    exact (ds_cons (ds_set (ps_set (i := 2) sc__law_near_parts.nd rfl (by first | exact Or.inl rfl | exact Or.inr rfl) (de_lst (da_cons de_str (da_cons de_str (da_cons de_str (da_cons de_str (da_cons de_str (da_cons de_str (da_cons de_str (da_cons de_str (da_cons de_non (da_cons de_bl (da_cons de_int (da_cons (de_tup (da_cons de_str da_nil)) da_nil))))))))))))))) (ds_cons (ds_set (ps_set (i := 3) sc__law_near_parts.nd rfl (by first | exact Or.inl rfl | exact Or.inr rfl) (de_lst (da_cons de_non (da_cons (de_ix (de_var (pv 1)) de_int) (da_cons (de_ix (de_var (pv 1)) de_int) (da_cons de_str (da_cons de_str (da_cons (de_two o_add (de_two o_add (de_ix (de_var (pv 1)) de_int) (de_ix (de_var (pv 1)) de_int)) (de_two o_mulS de_str de_int)) (da_cons de_str (da_cons de_int (da_cons de_bl (da_cons (de_tup (da_cons (de_ix (de_var (pv 1)) de_int) da_nil)) (da_cons (de_lst (da_cons (de_ix (de_var (pv 1)) de_int) da_nil)) da_nil)))))))))))))) (ds_cons (ds_set (ps_set (i := 4) sc__law_near_parts.nd rfl (by first | exact Or.inl rfl | exact Or.inr rfl) (de_lst (da_cons de_int (da_cons de_int (da_cons de_int (da_cons de_int (da_cons (de_two o_sub de_int de_int) (da_cons de_bl (da_cons de_bl (da_cons de_non (da_cons de_str (da_cons (de_two o_pow de_int de_int) (da_cons (de_tup (da_cons de_int da_nil)) da_nil)))))))))))))) (ds_cons (ds_set (ps_set (i := 5) sc__law_near_parts.nd rfl (by first | exact Or.inl rfl | exact Or.inr rfl) (de_lst (da_cons de_int (da_cons de_int (da_cons de_int (da_cons de_int (da_cons (de_two o_sub de_int de_int) (da_cons de_bl (da_cons de_bl (da_cons de_non (da_cons de_str (da_cons (de_two o_pow de_int de_int) (da_cons (de_lst (da_cons de_int da_nil)) da_nil)))))))))))))) (ds_cons (ds_set (ps_set (i := 6) sc__law_near_parts.nd rfl (by first | exact Or.inl rfl | exact Or.inr rfl) (de_lst (da_cons de_non (da_cons de_str (da_cons de_str (da_cons de_str (da_cons de_str (da_cons de_str (da_cons de_bl (da_cons de_bl (da_cons de_int (da_cons (de_tup (da_cons de_str da_nil)) (da_cons (de_lst (da_cons de_str da_nil)) (da_cons de_d0 da_nil))))))))))))))) (ds_one (ds_ret (de_lst (da_cons (de_var (pv 2)) (da_cons (de_var (pv 3)) (da_cons (de_var (pv 4)) (da_cons (de_var (pv 5)) (da_cons (de_var (pv 6)) da_nil)))))))))))))
/-! is_below -/
abbrev s_is_below : Stmt := topS 6
abbrev N_is_below : List Str := ["value", "limit"]
theorem sc_is_below : FnScope N_is_below ["value", "limit"] (defScope s_is_below) := ⟨rfl, rfl, rfl, by decide +kernel, rfl, by decide +kernel, by decide +kernel⟩
def f_is_below : FS := (sRet (eAnd (eCall (g_is_integer) [] 1 (aCons (eVar 0) aNil)) (eChain gLe' gLt' (eInt 0) (eVar 0) (eVar 1))))
def g_is_below : GA := defF 2 (f_is_below)
theorem ok_is_below {f : Addr} {fd : FuncData} (F : Fun K "is_below" "is_below" s_is_below f fd) (T : Txt K mg) (C_is_integer : Cal0 P w K mg base 1 "is_integer" 1 (g_is_integer)) : FnOk P w K mg base CX0 2 f fd ["value", "limit"] (spD K 2 (g_is_below)) :=
  fn0_of F sc_is_below fun cdv A outer s H E hr => by
    unfold f_is_below
    exact (ds_one (ds_ret (de_and (de_callN0 C_is_integer (hr.mono (by decide)) (by rfl) (da_cons (de_var (pv 0)) da_nil)) (de_one (de_chain o_le o_lt de_int (de_var (pv 0)) (de_var (pv 1)))))))
/-! _can_have_kind -/
abbrev s__can_have_kind : Stmt := topS 18
abbrev N__can_have_kind : List Str := ["act", "kind"]
theorem sc__can_have_kind : FnScope N__can_have_kind ["act", "kind"] (defScope s__can_have_kind) := ⟨rfl, rfl, rfl, by decide +kernel, rfl, by decide +kernel, by decide +kernel⟩
def f__can_have_kind : FS := (sSeq (sIf (fB (eTwo gInX (eVar 0) (eTup (aCons (eStr "send") (aCons (eStr "take") aNil))))) (sRet (eCall (g_is_word) [] 1 (aCons (eVar 1) aNil))) sNx) (sRet (eAnd (eTwo gInX (eVar 0) (eTupC k_ACTS)) (eTwo (gIs fun b => b) (eVar 1) eNone))))
def g__can_have_kind : GA := defF 2 (f__can_have_kind)
theorem ok__can_have_kind {f : Addr} {fd : FuncData} (F : Fun K "_can_have_kind" "_can_have_kind" s__can_have_kind f fd) (T : Txt K mg) (C_is_word : Cal0 P w K mg base 1 "is_word" 1 (g_is_word)) : FnOk P w K mg base CX0 2 f fd ["act", "kind"] (spD K 2 (g__can_have_kind)) :=
  fn0_of F sc__can_have_kind fun cdv A outer s H E hr => by
    unfold f__can_have_kind
    exact (ds_cons (ds_if (dt_of (o_inX hr.units) (de_var (pv 0)) (de_tup (da_cons de_str (da_cons de_str da_nil))) (by rfl)) (ds_one (ds_ret (de_callN0 C_is_word (hr.mono (by decide)) (by rfl) (da_cons (de_var (pv 1)) da_nil)))) ds_nil) (ds_one (ds_ret (de_and (de_cmp (o_inX hr.units) (de_var (pv 0)) (de_ktupE (by rfl) T.c_ACTS) (by rfl)) (de_one (de_cmp o_is (de_var (pv 1)) de_non (nomark _)))))))
/-! _law_pick -/
abbrev s__law_pick : Stmt := topS 30
abbrev N__law_pick : List Str := ["_law_stock_here", "_law_items"]
theorem sc__law_pick : FnScope N__law_pick ["_law_stock_here", "_law_items"] (defScope s__law_pick) := ⟨rfl, rfl, rfl, by decide +kernel, rfl, by decide +kernel, by decide +kernel⟩
def f__law_pick : FS := (sRet (eTwo gIx (eVar 1) (eCall (g__law_draw) [] 2 (aCons (eVar 0) (aCons (eApp gLen (aCons (eVar 1) aNil)) aNil)))))
def g__law_pick : GA := defF 2 (f__law_pick)
theorem ok__law_pick {f : Addr} {fd : FuncData} (F : Fun K "_law_pick" "_law_pick" s__law_pick f fd) (T : Txt K mg) (C__law_draw : CalG P w K mg base 1 "_law_draw" 2 (g__law_draw)) : FnG P w K mg base CX0 2 f fd ["_law_stock_here", "_law_items"] (g__law_pick) :=
  fnG_of F sc__law_pick fun cdv A outer s H E hr hgd => by
    unfold f__law_pick
    exact (ds_one (ds_ret (de_ix (de_var (pv 1)) (de_callN C__law_draw (hr.mono (by decide)) (GD A hgd) (by rfl) (da_cons (de_var (pv 0)) (da_cons (de_bi c_len (by rfl) T.b_len (by decide +kernel) (da_cons (de_var (pv 1)) da_nil)) da_nil))))))
/-! _law_shuffled -/
abbrev s__law_shuffled : Stmt := topS 31
abbrev N__law_shuffled : List Str := ["_law_stock_here", "_law_items", "_law_left", "_law_turn"]
theorem sc__law_shuffled : FnScope N__law_shuffled ["_law_stock_here", "_law_items"] (defScope s__law_shuffled) := ⟨rfl, rfl, rfl, by decide +kernel, rfl, by decide +kernel, by decide +kernel⟩
def f__law_shuffled : FS := (sSeq (sSet 2 (eApp gListM (aCons (eVar 1) aNil))) (sRet (eLc (iRg1 (aCons (eApp gLen (aCons (eVar 1) aNil)) aNil)) (gNm 3) [3] tTrue (ePop (eVar 2) (eCall (g__law_draw) [] 2 (aCons (eVar 0) (aCons (eApp gLen (aCons (eVar 2) aNil)) aNil)))))))
def g__law_shuffled : GA := defF 4 (f__law_shuffled)
theorem ok__law_shuffled {f : Addr} {fd : FuncData} (F : Fun K "_law_shuffled" "_law_shuffled" s__law_shuffled f fd) (T : Txt K mg) (C__law_draw : CalG P w K mg base 1 "_law_draw" 2 (g__law_draw)) : FnG P w K mg base CX0 2 f fd ["_law_stock_here", "_law_items"] (g__law_shuffled) :=
  fnG_of F sc__law_shuffled fun cdv A outer s H E hr hgd => by
    unfold f__law_shuffled
    exact (ds_cons (ds_set (ps_set (i := 2) sc__law_shuffled.nd rfl (by first | exact Or.inl rfl | exact Or.inr rfl) (de_bt (c_listM rfl) (by rfl) T.b_list (by decide +kernel) (da_cons (de_var (pv 1)) da_nil)))) (ds_one (ds_ret (de_lc rfl sc__law_shuffled.nd (di_range1 (by rfl) T.b_range (da_cons (de_bi c_len (by rfl) T.b_len (by decide +kernel) (da_cons (de_var (pv 1)) da_nil)) da_nil)) (blkOk_by (own := [("_law_turn", 3)]) (N := N__law_shuffled) (sc := defScope s__law_shuffled) (by decide +kernel)) (by rfl) (by decide) (fun _ _ _ _ _ => (dg_name (pg_name (i := 3) sc__law_shuffled.nd rfl (by first | exact Or.inl rfl | exact Or.inr rfl)))) (fun _ _ _ _ _ => dts_nil) (fun _ _ _ _ _ => (de_pop (de_var (pv 2)) (de_callN C__law_draw (hr.mono (by decide)) (GD A hgd) (by rfl) (da_cons (de_var (pv 0)) (da_cons (de_bi c_len (by rfl) T.b_len (by decide +kernel) (da_cons (de_var (pv 2)) da_nil)) da_nil)))))))))
/-! _law_letter -/
abbrev s__law_letter : Stmt := topS 32
abbrev N__law_letter : List Str := ["_law_stock_here"]
theorem sc__law_letter : FnScope N__law_letter ["_law_stock_here"] (defScope s__law_letter) := ⟨rfl, rfl, rfl, by decide +kernel, rfl, by decide +kernel, by decide +kernel⟩
def f__law_letter : FS := (sRet (eTwo gIx (eStr "abcdefghijklmnopqrstuvwxyz") (eCall (g__law_draw) [] 2 (aCons (eVar 0) (aCons (eInt 26) aNil)))))
def g__law_letter : GA := defF 1 (f__law_letter)
theorem ok__law_letter {f : Addr} {fd : FuncData} (F : Fun K "_law_letter" "_law_letter" s__law_letter f fd) (T : Txt K mg) (C__law_draw : CalG P w K mg base 1 "_law_draw" 2 (g__law_draw)) : FnG P w K mg base CX0 2 f fd ["_law_stock_here"] (g__law_letter) :=
  fnG_of F sc__law_letter fun cdv A outer s H E hr hgd => by
    unfold f__law_letter
    exact (ds_one (ds_ret (de_ix de_str (de_callN C__law_draw (hr.mono (by decide)) (GD A hgd) (by rfl) (da_cons (de_var (pv 0)) (da_cons de_int da_nil))))))
/-! _law_is_fine_move -/
abbrev s__law_is_fine_move : Stmt := topS 36
abbrev N__law_is_fine_move : List Str := ["_law_value", "_law_size", "_law_act", "_law_kind", "_law_target", "_law_cost", "_law_keeping"]
theorem sc__law_is_fine_move : FnScope N__law_is_fine_move ["_law_value", "_law_size"] (defScope s__law_is_fine_move) := ⟨rfl, rfl, rfl, by decide +kernel, rfl, by decide +kernel, by decide +kernel⟩
def f__law_is_fine_move : FS := (sSeq (sIf (tOrF (tNotF (fTru (eApp gIsi (aCons (eVar 0) (aCons (eTy "tuple") aNil))))) (fB (eTwo gNe (eApp gLen (aCons (eVar 0) aNil)) (eInt 5)))) (sRet (eBool false)) sNx) (sSeq (sAsg (gTp [2, 3, 4, 5, 6]) (eVar 0)) (sSeq (sIf (tOrF (tNotF (fTru (eApp gIsi (aCons (eVar 2) (aCons (eTy "str") aNil))))) (fB (eTwo (gInS fun b => !b) (eVar 2) (eLst (aCons (eStr "output") (aCons (eStr "send") (aCons (eStr "take") (aCons (eStr "work") aNil)))))))) (sRet (eBool false)) sNx) (sSeq (sIf (tOrF (tAndF (fB (eTwo (gInS fun b => b) (eVar 2) (eLst (aCons (eStr "send") (aCons (eStr "take") aNil))))) (tNotF (fTru (eCall (g__law_spelled) [] 1 (aCons (eVar 3) aNil))))) (tAndF (fB (eTwo (gInS fun b => !b) (eVar 2) (eLst (aCons (eStr "send") (aCons (eStr "take") aNil))))) (fB (eTwo (gIs fun b => !b) (eVar 3) eNone)))) (sRet (eBool false)) sNx) (sSeq (sIf (tOrF (tNotF (fTru (eCall (g__law_is_below) [] 2 (aCons (eVar 4) (aCons (eTwo gSub (eVar 1) (eInt 1)) aNil))))) (tNotF (fTru (eCall (g__law_is_below) [] 2 (aCons (eVar 5) (aCons (eInt 9) aNil)))))) (sRet (eBool false)) sNx) (sSeq (sIf (fB (eTwo (gIs fun b => b) (eVar 6) eNone)) (sRet (eBool true)) sNx) (sRet (eAnd (eApp gIsi (aCons (eVar 6) (aCons (eTy "str") aNil))) (eOr (eTwo gEq (eVar 6) (eStr "save")) (eAnd (eTwo gEq (eVar 6) (eStr "note")) (eTwo gEq (eVar 2) (eStr "take"))))))))))))
def g__law_is_fine_move : GA := defF 7 (f__law_is_fine_move)
theorem ok__law_is_fine_move {f : Addr} {fd : FuncData} (F : Fun K "_law_is_fine_move" "_law_is_fine_move" s__law_is_fine_move f fd) (T : Txt K mg) (C__law_is_below : CalG P w K mg base 1 "_law_is_below" 2 (g__law_is_below)) (C__law_spelled : CalG P w K mg base 1 "_law_spelled" 1 (g__law_spelled)) : FnG P w K mg base CX0 2 f fd ["_law_value", "_law_size"] (g__law_is_fine_move) :=
  fnG_of F sc__law_is_fine_move fun cdv A outer s H E hr hgd => by
    unfold f__law_is_fine_move
    exact (ds_cons (ds_if (dt_w (dw_or (dt_not (dt_tru (de_bi c_isi (by rfl) T.b_isinstance (by decide +kernel) (da_cons (de_var (pv 0)) (da_cons (de_ty (by rfl) T.b_tuple (by decide +kernel)) da_nil))))) (dw_or1 (dt_of (o_ne hr.units) (de_bi c_len (by rfl) T.b_len (by decide +kernel) (da_cons (de_var (pv 0)) da_nil)) de_int (nomark _))))) (ds_one (ds_ret de_bl)) ds_nil) (ds_cons (ds_asg (de_var (pv 0)) (dg_tup (is := [2, 3, 4, 5, 6]) rfl (.cons (pg_name (i := 2) sc__law_is_fine_move.nd rfl (by first | exact Or.inl rfl | exact Or.inr rfl)) rfl (.cons (pg_name (i := 3) sc__law_is_fine_move.nd rfl (by first | exact Or.inl rfl | exact Or.inr rfl)) rfl (.cons (pg_name (i := 4) sc__law_is_fine_move.nd rfl (by first | exact Or.inl rfl | exact Or.inr rfl)) rfl (.cons (pg_name (i := 5) sc__law_is_fine_move.nd rfl (by first | exact Or.inl rfl | exact Or.inr rfl)) rfl (.cons (pg_name (i := 6) sc__law_is_fine_move.nd rfl (by first | exact Or.inl rfl | exact Or.inr rfl)) rfl .nil))))))) (ds_cons (ds_if (dt_w (dw_or (dt_not (dt_tru (de_bi c_isi (by rfl) T.b_isinstance (by decide +kernel) (da_cons (de_var (pv 2)) (da_cons (de_ty (by rfl) T.b_str (by decide +kernel)) da_nil))))) (dw_or1 (dt_of o_notIn (de_var (pv 2)) (de_lst (da_cons de_str (da_cons de_str (da_cons de_str (da_cons de_str da_nil))))) (by rfl))))) (ds_one (ds_ret de_bl)) ds_nil) (ds_cons (ds_if (dt_w (dw_or (dt_w (dw_and (dt_of o_in (de_var (pv 2)) (de_lst (da_cons de_str (da_cons de_str da_nil))) (by rfl)) (dw_and1 (dt_not (dt_tru (de_callN C__law_spelled (hr.mono (by decide)) (GD A hgd) (by rfl) (da_cons (de_var (pv 3)) da_nil))))))) (dw_or1 (dt_w (dw_and (dt_of o_notIn (de_var (pv 2)) (de_lst (da_cons de_str (da_cons de_str da_nil))) (by rfl)) (dw_and1 (dt_of o_isnot (de_var (pv 3)) de_non (nomark _)))))))) (ds_one (ds_ret de_bl)) ds_nil) (ds_cons (ds_if (dt_w (dw_or (dt_not (dt_tru (de_callN C__law_is_below (hr.mono (by decide)) (GD A hgd) (by rfl) (da_cons (de_var (pv 4)) (da_cons (de_two o_sub (de_var (pv 1)) de_int) da_nil))))) (dw_or1 (dt_not (dt_tru (de_callN C__law_is_below (hr.mono (by decide)) (GD A hgd) (by rfl) (da_cons (de_var (pv 5)) (da_cons de_int da_nil)))))))) (ds_one (ds_ret de_bl)) ds_nil) (ds_cons (ds_if (dt_of o_is (de_var (pv 6)) de_non (nomark _)) (ds_one (ds_ret de_bl)) ds_nil) (ds_one (ds_ret (de_and (de_bi c_isi (by rfl) T.b_isinstance (by decide +kernel) (da_cons (de_var (pv 6)) (da_cons (de_ty (by rfl) T.b_str (by decide +kernel)) da_nil))) (de_one (de_or (de_cmp (o_eq hr.units) (de_var (pv 6)) de_str (nomark _)) (de_one (de_and (de_cmp (o_eq hr.units) (de_var (pv 6)) de_str (nomark _)) (de_one (de_cmp (o_eq hr.units) (de_var (pv 2)) de_str (nomark _))))))))))))))))
/-! is_price -/
abbrev s_is_price : Stmt := topS 16
abbrev N_is_price : List Str := ["value"]
theorem sc_is_price : FnScope N_is_price ["value"] (defScope s_is_price) := ⟨rfl, rfl, rfl, by decide +kernel, rfl, by decide +kernel, by decide +kernel⟩
def f_is_price : FS := (sRet (eCall (g_is_below) [] 2 (aCons (eVar 0) (aCons (eTwo gAdd (eInt 9) (eInt 1)) aNil))))
def g_is_price : GA := defF 1 (f_is_price)
theorem ok_is_price {f : Addr} {fd : FuncData} (F : Fun K "is_price" "is_price" s_is_price f fd) (T : Txt K mg) (C_is_below : Cal0 P w K mg base 2 "is_below" 2 (g_is_below)) : FnOk P w K mg base CX0 3 f fd ["value"] (spD K 1 (g_is_price)) :=
  fn0_of F sc_is_price fun cdv A outer s H E hr => by
    unfold f_is_price
    exact (ds_one (ds_ret (de_callN0 C_is_below (hr.mono (by decide)) (by rfl) (da_cons (de_var (pv 0)) (da_cons (de_two o_add (de_kintE (by rfl) T.c_MAX_PRICE) de_int) da_nil)))))
/-! _law_many_words -/
abbrev s__law_many_words : Stmt := topS 33
abbrev N__law_many_words : List Str := ["_law_stock_here", "_law_much", "_law_place", "_law_sign", "_law_tail", "_law_way", "_law_found", "_law_at"]
theorem sc__law_many_words : FnScope N__law_many_words ["_law_stock_here", "_law_much"] (defScope s__law_many_words) := ⟨rfl, rfl, rfl, by decide +kernel, rfl, by decide +kernel, by decide +kernel⟩
def f__law_many_words : FS := (sSeq (sPar3 4 5 6 (aCons (eJoin (eStr "") (eLc (iRg1 (aCons (eCall (g__law_draw) [] 2 (aCons (eVar 0) (aCons (eInt 8) aNil))) aNil)) (gNm 7) [7] tTrue (eCall (g__law_letter) [] 1 (aCons (eVar 0) aNil)))) (aCons (eCall (g__law_draw) [] 2 (aCons (eVar 0) (aCons (eInt 2) aNil))) (aCons (eLoc aNil) aNil)))) (sSeq (sSet 2 (eCall (g__law_draw) [] 2 (aCons (eVar 0) (aCons (eTwo gAdd (eApp gLen (aCons (eVar 4) aNil)) (eInt 1)) aNil)))) (sSeq (sFor (iVal (eCut (eCall (g__law_shuffled) [] 2 (aCons (eVar 0) (aCons (eStr "abcdefghijklmnopqrstuvwxyz") aNil))) oNo (oSo (eVar 1)))) (gNm 3) (sIf (fB (eTwo gEq (eVar 5) (eInt 0))) (sExpr (eAppend (eVar 6) (eTwo gAdd (eTwo gAdd (eCut (eVar 4) oNo (oSo (eVar 2))) (eVar 3)) (eCut (eVar 4) (oSo (eVar 2)) oNo)))) (sExpr (eAppend (eVar 6) (eTwo gAdd (eVar 3) (eCut (eVar 4) oNo (oSo (eCall (g__law_draw) [] 2 (aCons (eVar 0) (aCons (eTwo gAdd (eApp gLen (aCons (eVar 4) aNil)) (eInt 1)) aNil)))))))))) (sRet (eSeal (eVar 6))))))
def g__law_many_words : GA := defF 8 (f__law_many_words)
theorem ok__law_many_words {f : Addr} {fd : FuncData} (F : Fun K "_law_many_words" "_law_many_words" s__law_many_words f fd) (T : Txt K mg) (C__law_draw : CalG P w K mg base 1 "_law_draw" 2 (g__law_draw)) (C__law_letter : CalG P w K mg base 2 "_law_letter" 1 (g__law_letter)) (C__law_shuffled : CalG P w K mg base 2 "_law_shuffled" 2 (g__law_shuffled)) : FnG P w K mg base CX0 3 f fd ["_law_stock_here", "_law_much"] (g__law_many_words) :=
  fnG_of F sc__law_many_words fun cdv A outer s H E hr hgd => by
    unfold f__law_many_words
    exact (ds_cons (ds_par3 (ps_par3 (by rfl) sc__law_many_words.nd rfl rfl rfl (by decide) (by decide) (by decide) rfl rfl rfl (da_cons (de_join de_str (de_lc rfl sc__law_many_words.nd (di_range1 (by rfl) T.b_range (da_cons (de_callN C__law_draw (hr.mono (by decide)) (GD A hgd) (by rfl) (da_cons (de_var (pv 0)) (da_cons de_int da_nil))) da_nil)) (blkOk_by (own := [("_law_at", 7)]) (N := N__law_many_words) (sc := defScope s__law_many_words) (by decide +kernel)) (by rfl) (by decide) (fun _ _ _ _ _ => (dg_name (pg_name (i := 7) sc__law_many_words.nd rfl (by first | exact Or.inl rfl | exact Or.inr rfl)))) (fun _ _ _ _ _ => dts_nil) (fun _ _ _ _ _ => (de_callN C__law_letter (hr.mono (by decide)) (GD A hgd) (by rfl) (da_cons (de_var (pv 0)) da_nil))))) (da_cons (de_callN C__law_draw (hr.mono (by decide)) (GD A hgd) (by rfl) (da_cons (de_var (pv 0)) (da_cons de_int da_nil))) (da_cons (de_loc da_nil) da_nil))) (by rfl))) (ds_cons (ds_set (ps_set (i := 2) sc__law_many_words.nd rfl (by first | exact Or.inl rfl | exact Or.inr rfl) (de_callN C__law_draw (hr.mono (by decide)) (GD A hgd) (by rfl) (da_cons (de_var (pv 0)) (da_cons (de_two o_add (de_bi c_len (by rfl) T.b_len (by decide +kernel) (da_cons (de_var (pv 4)) da_nil)) de_int) da_nil))))) (ds_cons (ds_for PassesOwn.never rfl (di_val (de_cut (de_callN C__law_shuffled (hr.mono (by decide)) (GD A hgd) (by rfl) (da_cons (de_var (pv 0)) (da_cons de_str da_nil))) do_none (do_some (de_var (pv 1))))) (dg_name (pg_name (i := 3) sc__law_many_words.nd rfl (by first | exact Or.inl rfl | exact Or.inr rfl))) (ds_one (ds_if (dt_of (o_eq hr.units) (de_var (pv 5)) de_int (nomark _)) (ds_one (ds_expr (de_append (de_var (pv 6)) (de_two o_add (de_two o_add (de_cut (de_var (pv 4)) do_none (do_some (de_var (pv 2)))) (de_var (pv 3))) (de_cut (de_var (pv 4)) (do_some (de_var (pv 2))) do_none))))) (ds_one (ds_expr (de_append (de_var (pv 6)) (de_two o_add (de_var (pv 3)) (de_cut (de_var (pv 4)) do_none (do_some (de_callN C__law_draw (hr.mono (by decide)) (GD A hgd) (by rfl) (da_cons (de_var (pv 0)) (da_cons (de_two o_add (de_bi c_len (by rfl) T.b_len (by decide +kernel) (da_cons (de_var (pv 4)) da_nil)) de_int) da_nil)))))))))))) (ds_one (ds_ret (de_seal (de_var (pv 6))))))))
/-! is_move -/
abbrev s_is_move : Stmt := topS 17
abbrev N_is_move : List Str := ["value", "act", "kind", "target", "price", "keeping"]
theorem sc_is_move : FnScope N_is_move ["value"] (defScope s_is_move) := ⟨rfl, rfl, rfl, by decide +kernel, rfl, by decide +kernel, by decide +kernel⟩
def f_is_move : FS := (sSeq (sIf (tOrF (tNotF (fTru (eApp gIsi (aCons (eVar 0) (aCons (eTy "tuple") aNil))))) (fB (eTwo gNe (eApp gLen (aCons (eVar 0) aNil)) (eInt 5)))) (sRet (eBool false)) sNx) (sSeq (sAsg (gTp [1, 2, 3, 4, 5]) (eVar 0)) (sRet (eAnd (eCall (g__can_have_kind) [] 2 (aCons (eVar 1) (aCons (eVar 2) aNil))) (eAnd (eCall (g_is_below) [] 2 (aCons (eVar 3) (aCons (eInt 6) aNil))) (eAnd (eCall (g_is_price) [] 1 (aCons (eVar 4) aNil)) (eCall (g_can_have_keeping) [] 2 (aCons (eVar 1) (aCons (eVar 5) aNil)))))))))
def g_is_move : GA := defF 6 (f_is_move)
theorem ok_is_move {f : Addr} {fd : FuncData} (F : Fun K "is_move" "is_move" s_is_move f fd) (T : Txt K mg) (C_can_have_keeping : Cal0 P w K mg base 1 "can_have_keeping" 2 (g_can_have_keeping)) (C__can_have_kind : Cal0 P w K mg base 2 "_can_have_kind" 2 (g__can_have_kind)) (C_is_below : Cal0 P w K mg base 2 "is_below" 2 (g_is_below)) (C_is_price : Cal0 P w K mg base 3 "is_price" 1 (g_is_price)) : FnOk P w K mg base CX0 4 f fd ["value"] (spD K 1 (g_is_move)) :=
  fn0_of F sc_is_move fun cdv A outer s H E hr => by
    unfold f_is_move
    exact (ds_cons (ds_if (dt_w (dw_or (dt_not (dt_tru (de_bi c_isi (by rfl) T.b_isinstance (by decide +kernel) (da_cons (de_var (pv 0)) (da_cons (de_ty (by rfl) T.b_tuple (by decide +kernel)) da_nil))))) (dw_or1 (dt_of (o_ne hr.units) (de_bi c_len (by rfl) T.b_len (by decide +kernel) (da_cons (de_var (pv 0)) da_nil)) de_int (nomark _))))) (ds_one (ds_ret de_bl)) ds_nil) (ds_cons (ds_asg (de_var (pv 0)) (dg_tup (is := [1, 2, 3, 4, 5]) rfl (.cons (pg_name (i := 1) sc_is_move.nd rfl (by first | exact Or.inl rfl | exact Or.inr rfl)) rfl (.cons (pg_name (i := 2) sc_is_move.nd rfl (by first | exact Or.inl rfl | exact Or.inr rfl)) rfl (.cons (pg_name (i := 3) sc_is_move.nd rfl (by first | exact Or.inl rfl | exact Or.inr rfl)) rfl (.cons (pg_name (i := 4) sc_is_move.nd rfl (by first | exact Or.inl rfl | exact Or.inr rfl)) rfl (.cons (pg_name (i := 5) sc_is_move.nd rfl (by first | exact Or.inl rfl | exact Or.inr rfl)) rfl .nil))))))) (ds_one (ds_ret (de_and (de_callN0 C__can_have_kind (hr.mono (by decide)) (by rfl) (da_cons (de_var (pv 1)) (da_cons (de_var (pv 2)) da_nil))) (de_and (de_callN0 C_is_below (hr.mono (by decide)) (by rfl) (da_cons (de_var (pv 3)) (da_cons (de_kintE (by rfl) T.c_MAX_STATES) da_nil))) (de_and (de_callN0 C_is_price (hr.mono (by decide)) (by rfl) (da_cons (de_var (pv 4)) da_nil)) (de_one (de_callN0 C_can_have_keeping (hr.mono (by decide)) (by rfl) (da_cons (de_var (pv 1)) (da_cons (de_var (pv 5)) da_nil)))))))))))
/-! _is_state -/
abbrev s__is_state : Stmt := topS 21
abbrev N__is_state : List Str := ["value", "many", "move"]
theorem sc__is_state : FnScope N__is_state ["value", "many"] (defScope s__is_state) := ⟨rfl, rfl, rfl, by decide +kernel, rfl, by decide +kernel, by decide +kernel⟩
def f__is_state : FS := (sSeq (sIf (tOrF (tNotF (fTru (eApp gIsi (aCons (eVar 0) (aCons (eTy "tuple") aNil))))) (fB (eTwo gGt (eApp gLen (aCons (eVar 0) aNil)) (eInt 6)))) (sRet (eBool false)) sNx) (sRet (eApp (gAll fun bs => bs.all id) (aCons (eLc (iVal (eVar 0)) (gNm 2) [2] tTrue (eAnd (eCall (g_is_move) [] 1 (aCons (eVar 2) aNil)) (eTwo gLt' (eTwo gIx (eVar 2) (eInt 2)) (eVar 1)))) aNil))))
def g__is_state : GA := defF 3 (f__is_state)
theorem ok__is_state {f : Addr} {fd : FuncData} (F : Fun K "_is_state" "_is_state" s__is_state f fd) (T : Txt K mg) (C_is_move : Cal0 P w K mg base 4 "is_move" 1 (g_is_move)) : FnOk P w K mg base CX0 5 f fd ["value", "many"] (spD K 2 (g__is_state)) :=
  fn0_of F sc__is_state fun cdv A outer s H E hr => by
    unfold f__is_state
    exact (ds_cons (ds_if (dt_w (dw_or (dt_not (dt_tru (de_bi c_isi (by rfl) T.b_isinstance (by decide +kernel) (da_cons (de_var (pv 0)) (da_cons (de_ty (by rfl) T.b_tuple (by decide +kernel)) da_nil))))) (dw_or1 (dt_of o_gt (de_bi c_len (by rfl) T.b_len (by decide +kernel) (da_cons (de_var (pv 0)) da_nil)) (de_kintE (by rfl) T.c_MAX_MOVES) (nomark _))))) (ds_one (ds_ret de_bl)) ds_nil) (ds_one (ds_ret (de_bi (c_all rfl) (by rfl) T.b_all (by decide +kernel) (da_cons (de_lc rfl sc__is_state.nd (di_val (de_var (pv 0))) (blkOk_by (own := [("move", 2)]) (N := N__is_state) (sc := defScope s__is_state) (by decide +kernel)) (by rfl) (by decide) (fun _ _ _ _ _ => (dg_name (pg_name (i := 2) sc__is_state.nd rfl (by first | exact Or.inl rfl | exact Or.inr rfl)))) (fun _ _ _ _ _ => dts_nil) (fun _ _ _ _ _ => (de_and (de_callN0 C_is_move (hr.mono (by decide)) (by rfl) (da_cons (de_var (pv 2)) da_nil)) (de_one (de_cmp o_lt (de_ix (de_var (pv 2)) de_int) (de_var (pv 1)) (nomark _)))))) da_nil)))))
/-! _are_states -/
abbrev s__are_states : Stmt := topS 20
abbrev N__are_states : List Str := ["value", "state"]
theorem sc__are_states : FnScope N__are_states ["value"] (defScope s__are_states) := ⟨rfl, rfl, rfl, by decide +kernel, rfl, by decide +kernel, by decide +kernel⟩
def f__are_states : FS := (sSeq (sIf (tNotF (fB (eChain gLe' gLe' (eInt 1) (eApp gLen (aCons (eVar 0) aNil)) (eInt 6)))) (sRet (eBool false)) sNx) (sRet (eApp (gAll fun bs => bs.all id) (aCons (eLc (iVal (eVar 0)) (gNm 1) [1] tTrue (eCall (g__is_state) [] 2 (aCons (eVar 1) (aCons (eApp gLen (aCons (eVar 0) aNil)) aNil)))) aNil))))
def g__are_states : GA := defF 2 (f__are_states)
theorem ok__are_states {f : Addr} {fd : FuncData} (F : Fun K "_are_states" "_are_states" s__are_states f fd) (T : Txt K mg) (C__is_state : Cal0 P w K mg base 5 "_is_state" 2 (g__is_state)) : FnOk P w K mg base CX0 6 f fd ["value"] (spD K 1 (g__are_states)) :=
  fn0_of F sc__are_states fun cdv A outer s H E hr => by
    unfold f__are_states
    exact (ds_cons (ds_if (dt_not (dt_chain o_le o_le de_int (de_bi c_len (by rfl) T.b_len (by decide +kernel) (da_cons (de_var (pv 0)) da_nil)) (de_kintE (by rfl) T.c_MAX_STATES))) (ds_one (ds_ret de_bl)) ds_nil) (ds_one (ds_ret (de_bi (c_all rfl) (by rfl) T.b_all (by decide +kernel) (da_cons (de_lc rfl sc__are_states.nd (di_val (de_var (pv 0))) (blkOk_by (own := [("state", 1)]) (N := N__are_states) (sc := defScope s__are_states) (by decide +kernel)) (by rfl) (by decide) (fun _ _ _ _ _ => (dg_name (pg_name (i := 1) sc__are_states.nd rfl (by first | exact Or.inl rfl | exact Or.inr rfl)))) (fun _ _ _ _ _ => dts_nil) (fun _ _ _ _ _ => (de_callN0 C__is_state (hr.mono (by decide)) (by rfl) (da_cons (de_var (pv 1)) (da_cons (de_bi c_len (by rfl) T.b_len (by decide +kernel) (da_cons (de_var (pv 0)) da_nil)) da_nil))))) da_nil)))))
/-! _law_is_taken: by hand -/
def f__law_is_taken (cM cX : Addr) : FS := sSeq (sTry 1 cX (eCM cM (gOf cM cX "_states" g__are_states) 2 (eFn cM) (aCons (eTup (aCons (eTup (aCons (eVar 0) aNil)) aNil)) aNil)) (fun M => .ok (.rt (.bl false)) M))
  (sRet (eTwo gEq (eApp gRepr (aCons (eProp cM "_states" (eVar 1)) aNil)) (eApp gRepr (aCons (eTup (aCons (eTup (aCons (eVar 0) aNil)) aNil)) aNil))))
def g__law_is_taken (cM cX : Addr) : GA := defF 2 (f__law_is_taken cM cX)
/-! _law_value_right -/
abbrev s__law_value_right : Stmt := topS 39
abbrev N__law_value_right : List Str := ["_law_value"]
theorem sc__law_value_right : FnScope N__law_value_right ["_law_value"] (defScope s__law_value_right) := ⟨rfl, rfl, rfl, by decide +kernel, rfl, by decide +kernel, by decide +kernel⟩
def f__law_value_right (cM : Addr) (cX : Addr) : FS := (sSeq (sIf (fB (eTwo gNe (eApp gRepr (aCons (eCall (g_is_move) [] 1 (aCons (eVar 0) aNil)) aNil)) (eApp gRepr (aCons (eCall (g__law_is_fine_move) [] 2 (aCons (eVar 0) (aCons (eInt 6) aNil))) aNil)))) (sRet (eBool false)) sNx) (sRet (eTwo gEq (eCall (g__law_is_taken cM cX) [] 1 (aCons (eVar 0) aNil)) (eCall (g__law_is_fine_move) [] 2 (aCons (eVar 0) (aCons (eInt 1) aNil))))))
def g__law_value_right (cM : Addr) (cX : Addr) : GA := defF 1 (f__law_value_right cM cX)
theorem ok__law_value_right {cM : Addr} {cX : Addr} {f : Addr} {fd : FuncData} (F : Fun K "_law_value_right" "_law_value_right" s__law_value_right f fd) (T : Txt K mg) (C__law_is_fine_move : CalG P w K mg base 2 "_law_is_fine_move" 2 (g__law_is_fine_move)) (C__law_is_taken : CalG P w K mg base 10 "_law_is_taken" 1 (g__law_is_taken cM cX)) (C_is_move : Cal0 P w K mg base 4 "is_move" 1 (g_is_move)) : FnG P w K mg base CX0 11 f fd ["_law_value"] (g__law_value_right cM cX) :=
  fnG_of F sc__law_value_right fun cdv A outer s H E hr hgd => by
    unfold f__law_value_right
    exact (ds_cons (ds_if (dt_of (o_ne hr.units) (de_bi (c_repr (GD A hgd) hr.units) (by rfl) T.b_repr (by decide +kernel) (da_cons (de_callN0 C_is_move (hr.mono (by decide)) (by rfl) (da_cons (de_var (pv 0)) da_nil)) da_nil)) (de_bi (c_repr (GD A hgd) hr.units) (by rfl) T.b_repr (by decide +kernel) (da_cons (de_callN C__law_is_fine_move (hr.mono (by decide)) (GD A hgd) (by rfl) (da_cons (de_var (pv 0)) (da_cons de_int da_nil))) da_nil)) (nomark _)) (ds_one (ds_ret de_bl)) ds_nil) (ds_one (ds_ret (de_cmp (o_eq hr.units) (de_callN C__law_is_taken (hr.mono (by decide)) (GD A hgd) (by rfl) (da_cons (de_var (pv 0)) da_nil)) (de_callN C__law_is_fine_move (hr.mono (by decide)) (GD A hgd) (by rfl) (da_cons (de_var (pv 0)) (da_cons de_int da_nil))) (nomark _)))))
/-! _law_cell_right -/
abbrev s__law_cell_right : Stmt := topS 40
abbrev N__law_cell_right : List Str := ["_law_stock_here", "_law_words", "_law_near", "_law_act", "_law_kind", "_law_keeping", "_law_move", "_law_values", "_law_part", "_law_turn", "_law_row", "_law_spots", "_law_spot", "_law_value", "_law_one"]
theorem sc__law_cell_right : FnScope N__law_cell_right ["_law_stock_here"] (defScope s__law_cell_right) := ⟨rfl, rfl, rfl, by decide +kernel, rfl, by decide +kernel, by decide +kernel⟩
def f__law_cell_right (cM : Addr) (cX : Addr) : FS := (sSeq (sSet 1 (eCall (g__law_many_words) [] 2 (aCons (eVar 0) (aCons (eInt 2) aNil)))) (sSeq (sSet 2 (eCall (g__law_near_parts) [] 2 (aCons (eVar 0) (aCons (eVar 1) aNil)))) (sSeq (sFor (iVal (eLst (aCons (eStr "output") (aCons (eStr "send") (aCons (eStr "take") (aCons (eStr "work") aNil)))))) (gNm 3) (sSeq (sSet 4 (eIf (fB (eTwo (gInS fun b => b) (eVar 3) (eLst (aCons (eStr "send") (aCons (eStr "take") aNil))))) (eTwo gIx (eVar 1) (eCall (g__law_draw) [] 2 (aCons (eVar 0) (aCons (eInt 2) aNil)))) eNone)) (sSeq (sSet 5 (eCall (g__law_pick) [] 2 (aCons (eVar 0) (aCons (eIf (fB (eTwo gEq (eVar 3) (eStr "take"))) (eLst (aCons eNone (aCons (eStr "save") (aCons (eStr "note") aNil)))) (eLst (aCons eNone (aCons (eStr "save") aNil)))) aNil)))) (sSeq (sSet 6 (eLst (aCons (eVar 3) (aCons (eVar 4) (aCons (eCall (g__law_draw) [] 2 (aCons (eVar 0) (aCons (eInt 6) aNil))) (aCons (eCall (g__law_draw) [] 2 (aCons (eVar 0) (aCons (eInt 10) aNil))) (aCons (eVar 5) aNil))))))) (sSeq (sSet 7 (eLoc (aCons (eApp gTuple (aCons (eVar 6) aNil)) (aCons (eApp gTuple (aCons (eCut (eVar 6) oNo (oSo (eInt 4))) aNil)) (aCons (eTwo gAddT (eApp gTuple (aCons (eVar 6) aNil)) (eTup (aCons eNone aNil))) (aCons (eApp gList (aCons (eVar 6) aNil)) (aCons eNone (aCons (eVar 3) (aCons (eTup aNil) (aCons (eTup (aCons (eApp gTuple (aCons (eVar 6) aNil)) aNil)) aNil)))))))))) (sSeq (sFor (iRg1 (aCons (eInt 5) aNil)) (gNm 8) (sSet 7 (eTwo gAddM (eVar 7) (eLc (iVal (eTwo gIx (eVar 2) (eVar 8))) (gNm 14) [14] tTrue (eApp gTuple (aCons (eTwo gAdd (eTwo gAdd (eCut (eVar 6) oNo (oSo (eVar 8))) (eLst (aCons (eVar 14) aNil))) (eCut (eVar 6) (oSo (eTwo gAdd (eVar 8) (eInt 1))) oNo)) aNil)))))) (sSeq (sFor (iRg1 (aCons (eInt 12) aNil)) (gNm 9) (sSeq (sPar 10 11 (aCons (eApp gListM (aCons (eVar 6) aNil)) (aCons (eCall (g__law_shuffled) [] 2 (aCons (eVar 0) (aCons (eLst (aCons (eInt 0) (aCons (eInt 1) (aCons (eInt 2) (aCons (eInt 3) (aCons (eInt 4) aNil)))))) aNil))) aNil))) (sSeq (sParIx (eCall (g__law_pick) [] 2 (aCons (eVar 0) (aCons (eTwo gIx (eVar 2) (eTwo gIx (eVar 11) (eInt 0))) aNil))) (eTwo gIx (eVar 11) (eInt 1)) (eVar 10) (eTwo gIx (eVar 11) (eInt 0)) 12) (sSeq (sSetIx (eCall (g__law_pick) [] 2 (aCons (eVar 0) (aCons (eTwo gIx (eVar 2) (eVar 12)) aNil))) (eVar 10) (eVar 12)) (sExpr (eAppend (eVar 7) (eApp gTuple (aCons (eVar 10) aNil)))))))) (sIf (fB (eTwo gNe (eLc (iVal (eSeal (eVar 7))) (gNm 13) [13] (tNotF (fTru (eCall (g__law_value_right cM cX) [] 1 (aCons (eVar 13) aNil)))) (eVar 13)) (eLst aNil))) (sRet (eBool false)) sNx)))))))) (sRet (eBool true)))))
def g__law_cell_right (cM : Addr) (cX : Addr) : GA := defF 15 (f__law_cell_right cM cX)
theorem ok__law_cell_right {cM : Addr} {cX : Addr} {f : Addr} {fd : FuncData} (F : Fun K "_law_cell_right" "_law_cell_right" s__law_cell_right f fd) (T : Txt K mg) (C__law_draw : CalG P w K mg base 1 "_law_draw" 2 (g__law_draw)) (C__law_many_words : CalG P w K mg base 3 "_law_many_words" 2 (g__law_many_words)) (C__law_near_parts : CalG P w K mg base 1 "_law_near_parts" 2 (g__law_near_parts)) (C__law_pick : CalG P w K mg base 2 "_law_pick" 2 (g__law_pick)) (C__law_shuffled : CalG P w K mg base 2 "_law_shuffled" 2 (g__law_shuffled)) (C__law_value_right : CalG P w K mg base 11 "_law_value_right" 1 (g__law_value_right cM cX)) : FnG P w K mg base CX0 12 f fd ["_law_stock_here"] (g__law_cell_right cM cX) :=
  fnG_of F sc__law_cell_right fun cdv A outer s H E hr hgd => by
    unfold f__law_cell_right
    exact (ds_cons (ds_set (ps_set (i := 1) sc__law_cell_right.nd rfl (by first | exact Or.inl rfl | exact Or.inr rfl) (de_callN C__law_many_words (hr.mono (by decide)) (GD A hgd) (by rfl) (da_cons (de_var (pv 0)) (da_cons de_int da_nil))))) (ds_cons (ds_set (ps_set (i := 2) sc__law_cell_right.nd rfl (by first | exact Or.inl rfl | exact Or.inr rfl) (de_callN C__law_near_parts (hr.mono (by decide)) (GD A hgd) (by rfl) (da_cons (de_var (pv 0)) (da_cons (de_var (pv 1)) da_nil))))) (ds_cons (ds_for PassesOwn.never rfl (di_val (de_lst (da_cons de_str (da_cons de_str (da_cons de_str (da_cons de_str da_nil)))))) (dg_name (pg_name (i := 3) sc__law_cell_right.nd rfl (by first | exact Or.inl rfl | exact Or.inr rfl))) (ds_cons (ds_set (ps_set (i := 4) sc__law_cell_right.nd rfl (by first | exact Or.inl rfl | exact Or.inr rfl) (de_ifx (dt_of o_in (de_var (pv 3)) (de_lst (da_cons de_str (da_cons de_str da_nil))) (by rfl)) (de_ix (de_var (pv 1)) (de_callN C__law_draw (hr.mono (by decide)) (GD A hgd) (by rfl) (da_cons (de_var (pv 0)) (da_cons de_int da_nil)))) de_non))) (ds_cons (ds_set (ps_set (i := 5) sc__law_cell_right.nd rfl (by first | exact Or.inl rfl | exact Or.inr rfl) (de_callN C__law_pick (hr.mono (by decide)) (GD A hgd) (by rfl) (da_cons (de_var (pv 0)) (da_cons (de_ifx (dt_of (o_eq hr.units) (de_var (pv 3)) de_str (nomark _)) (de_lst (da_cons de_non (da_cons de_str (da_cons de_str da_nil)))) (de_lst (da_cons de_non (da_cons de_str da_nil)))) da_nil))))) (ds_cons (ds_set (ps_set (i := 6) sc__law_cell_right.nd rfl (by first | exact Or.inl rfl | exact Or.inr rfl) (de_lst (da_cons (de_var (pv 3)) (da_cons (de_var (pv 4)) (da_cons (de_callN C__law_draw (hr.mono (by decide)) (GD A hgd) (by rfl) (da_cons (de_var (pv 0)) (da_cons de_int da_nil))) (da_cons (de_callN C__law_draw (hr.mono (by decide)) (GD A hgd) (by rfl) (da_cons (de_var (pv 0)) (da_cons de_int da_nil))) (da_cons (de_var (pv 5)) da_nil)))))))) (ds_cons (ds_set (ps_set (i := 7) sc__law_cell_right.nd rfl (by first | exact Or.inl rfl | exact Or.inr rfl) (de_loc (da_cons (de_bt c_tuple (by rfl) T.b_tuple (by decide +kernel) (da_cons (de_var (pv 6)) da_nil)) (da_cons (de_bt c_tuple (by rfl) T.b_tuple (by decide +kernel) (da_cons (de_cut (de_var (pv 6)) do_none (do_some de_int)) da_nil)) (da_cons (de_two o_addT (de_bt c_tuple (by rfl) T.b_tuple (by decide +kernel) (da_cons (de_var (pv 6)) da_nil)) (de_tup (da_cons de_non da_nil))) (da_cons (de_bt (c_list rfl) (by rfl) T.b_list (by decide +kernel) (da_cons (de_var (pv 6)) da_nil)) (da_cons de_non (da_cons (de_var (pv 3)) (da_cons (de_tup da_nil) (da_cons (de_tup (da_cons (de_bt c_tuple (by rfl) T.b_tuple (by decide +kernel) (da_cons (de_var (pv 6)) da_nil)) da_nil)) da_nil))))))))))) (ds_cons (ds_for PassesOwn.never rfl (di_range1 (by rfl) T.b_range (da_cons de_int da_nil)) (dg_name (pg_name (i := 8) sc__law_cell_right.nd rfl (by first | exact Or.inl rfl | exact Or.inr rfl))) (ds_one (ds_set (ps_set (i := 7) sc__law_cell_right.nd rfl (by first | exact Or.inl rfl | exact Or.inr rfl) (de_two o_addM (de_var (pv 7)) (de_lc rfl sc__law_cell_right.nd (di_val (de_ix (de_var (pv 2)) (de_var (pv 8)))) (blkOk_by (own := [("_law_one", 14)]) (N := N__law_cell_right) (sc := defScope s__law_cell_right) (by decide +kernel)) (by rfl) (by decide) (fun _ _ _ _ _ => (dg_name (pg_name (i := 14) sc__law_cell_right.nd rfl (by first | exact Or.inl rfl | exact Or.inr rfl)))) (fun _ _ _ _ _ => dts_nil) (fun _ _ _ _ _ => (de_bt c_tuple (by rfl) T.b_tuple (by decide +kernel) (da_cons (de_two o_add (de_two o_add (de_cut (de_var (pv 6)) do_none (do_some (de_var (pv 8)))) (de_lst (da_cons (de_var (pv 14)) da_nil))) (de_cut (de_var (pv 6)) (do_some (de_two o_add (de_var (pv 8)) de_int)) do_none)) da_nil))))))))) (ds_cons (ds_for PassesOwn.never rfl (di_range1 (by rfl) T.b_range (da_cons de_int da_nil)) (dg_name (pg_name (i := 9) sc__law_cell_right.nd rfl (by first | exact Or.inl rfl | exact Or.inr rfl))) (ds_cons (ds_par (ps_par (by rfl) sc__law_cell_right.nd rfl rfl (by decide) rfl rfl (da_cons (de_bt (c_listM rfl) (by rfl) T.b_list (by decide +kernel) (da_cons (de_var (pv 6)) da_nil)) (da_cons (de_callN C__law_shuffled (hr.mono (by decide)) (GD A hgd) (by rfl) (da_cons (de_var (pv 0)) (da_cons (de_lst (da_cons de_int (da_cons de_int (da_cons de_int (da_cons de_int (da_cons de_int da_nil)))))) da_nil))) da_nil)) (by rfl))) (ds_cons (ds_parIx (da_cons (de_callN C__law_pick (hr.mono (by decide)) (GD A hgd) (by rfl) (da_cons (de_var (pv 0)) (da_cons (de_ix (de_var (pv 2)) (de_ix (de_var (pv 11)) de_int)) da_nil))) (da_cons (de_ix (de_var (pv 11)) de_int) da_nil)) (de_var (pv 10)) (de_ix (de_var (pv 11)) de_int) (pg_name (i := 12) sc__law_cell_right.nd rfl (by first | exact Or.inl rfl | exact Or.inr rfl)) rfl) (ds_cons (ds_setIx (de_callN C__law_pick (hr.mono (by decide)) (GD A hgd) (by rfl) (da_cons (de_var (pv 0)) (da_cons (de_ix (de_var (pv 2)) (de_var (pv 12))) da_nil))) (de_var (pv 10)) (de_var (pv 12))) (ds_one (ds_expr (de_append (de_var (pv 7)) (de_bt c_tuple (by rfl) T.b_tuple (by decide +kernel) (da_cons (de_var (pv 10)) da_nil))))))))) (ds_one (ds_if (dt_of (o_ne hr.units) (de_lc rfl sc__law_cell_right.nd (di_val (de_seal (de_var (pv 7)))) (blkOk_by (own := [("_law_value", 13)]) (N := N__law_cell_right) (sc := defScope s__law_cell_right) (by decide +kernel)) (by rfl) (by decide) (fun _ _ _ _ _ => (dg_name (pg_name (i := 13) sc__law_cell_right.nd rfl (by first | exact Or.inl rfl | exact Or.inr rfl)))) (fun _ _ _ _ _ => (dts_one (dt_not (dt_tru (de_callN C__law_value_right (hr.mono (by decide)) (GD A hgd) (by rfl) (da_cons (de_var (pv 13)) da_nil)))))) (fun _ _ _ _ _ => (de_var (pv 13)))) (de_lst da_nil) (nomark _)) (ds_one (ds_ret de_bl)) ds_nil))))))))) (ds_one (ds_ret de_bl)))))
/-! law -/
abbrev s_law : Stmt := topS 41
abbrev N_law : List Str := ["_law_script", "_law_at"]
theorem sc_law : FnScope N_law ["_law_script"] (defScope s_law) := ⟨rfl, rfl, rfl, by decide +kernel, rfl, by decide +kernel, by decide +kernel⟩
def f_law (cM : Addr) (cX : Addr) : FS := (sSeq (sFor (iRg1 (aCons (eApp gMax (aCons (eInt 1) (aCons (eApp gMin (aCons (eInt 5) (aCons (eApp gLen (aCons (eVar 0) aNil)) aNil))) aNil))) aNil)) (gNm 1) (sIf (tNotF (fTru (eCall (g__law_cell_right cM cX) [] 1 (aCons (eCall (g__law_stock) [] 2 (aCons (eVar 0) (aCons (eVar 1) aNil))) aNil)))) (sRet (eBool false)) sNx)) (sRet (eBool true)))
def g_law (cM : Addr) (cX : Addr) : GA := defF 2 (f_law cM cX)
theorem ok_law {cM : Addr} {cX : Addr} {f : Addr} {fd : FuncData} (F : Fun K "law" "law" s_law f fd) (T : Txt K mg) (C__law_cell_right : CalG P w K mg base 12 "_law_cell_right" 1 (g__law_cell_right cM cX)) (C__law_stock : CalG P w K mg base 1 "_law_stock" 2 (g__law_stock)) : FnG P w K mg base CX0 13 f fd ["_law_script"] (g_law cM cX) :=
  fnG_of F sc_law fun cdv A outer s H E hr hgd => by
    unfold f_law
    exact (ds_cons (ds_for PassesOwn.never rfl (di_range1 (by rfl) T.b_range (da_cons (de_bi (c_max rfl) (by rfl) T.b_max (by decide +kernel) (da_cons de_int (da_cons (de_bi (c_min rfl) (by rfl) T.b_min (by decide +kernel) (da_cons de_int (da_cons (de_bi c_len (by rfl) T.b_len (by decide +kernel) (da_cons (de_var (pv 0)) da_nil)) da_nil))) da_nil))) da_nil)) (dg_name (pg_name (i := 1) sc_law.nd rfl (by first | exact Or.inl rfl | exact Or.inr rfl))) (ds_one (ds_if (dt_not (dt_tru (de_callN C__law_cell_right (hr.mono (by decide)) (GD A hgd) (by rfl) (da_cons (de_callN C__law_stock (hr.mono (by decide)) (GD A hgd) (by rfl) (da_cons (de_var (pv 0)) (da_cons (de_var (pv 1)) da_nil))) da_nil)))) (ds_one (ds_ret de_bl)) ds_nil))) (ds_one (ds_ret de_bl)))
end
end K05
namespace K05
open PySem PySem.Spec PyProof.Rows L2 Den
abbrev sI : Stmt := inClass (topS 26) 0
abbrev sO : Stmt := inClass (topS 26) 1
abbrev sS : Stmt := inClass (topS 26) 3
abbrev sT : Stmt := topS 38
abbrev baseV : List Value := [.type "ValueError", .type "Exception", .type "BaseException", .type "object"]
/-- what the top has written of the class and the error -/
structure Objs (K : Kf) (mg : Str → Option Value) (cM cX fI fO fS pO pS : Addr) (mc : Value) : Prop where
  cl : Cls K cM
  na : NoAttr K cM "_states"
  mko : Mk K cM fI
  gM : mg "Machine" = some (.ref cM)
  gX : mg "InvalidMachine" = some (.ref cX)
  xX : PySem.W.excIn K cX baseV "ValueError.__new__" = true
  kX : PySem.W.keepIn K (.ref cX) = true
  bX : PySem.W.subIn K (.ref cX) (.type "BaseException") = some true
  tX : PySem.W.typeIn K (.ref cX) = some (.type "type")
  eX : PySem.W.exmOne K (.ref cX) (.ref cX) = some true
  rd : ClX.CRead K cM mc
  cm : ClX.CMet K cM mc "of" pO fO
  pr : PropOf K cM "states" pS fS
section
variable {P : Program} {w : World} {K : Kf} {mg : Str → Option Value} {base : Heap} {cM cX fI fO fS pO pS : Addr} {mc : Value}
theorem scI : FnScope ["self", "states"] ["self", "states"] (defScope sI) := ⟨rfl, rfl, rfl, by decide +kernel, rfl, by decide +kernel, by decide +kernel⟩
theorem scO : FnScope ["cls", "states"] ["cls", "states"] (defScope sO) := ⟨rfl, rfl, rfl, by decide +kernel, rfl, by decide +kernel, by decide +kernel⟩
theorem scS : FnScope ["self"] ["self"] (defScope sS) := ⟨rfl, rfl, rfl, by decide +kernel, rfl, by decide +kernel, by decide +kernel⟩
abbrev nT : List Str := ["_law_value", "_law_machine"]
theorem scT : FnScope nT ["_law_value"] (defScope sT) := ⟨rfl, rfl, rfl, by decide +kernel, rfl, by decide +kernel, by decide +kernel⟩
theorem ok_init {fd : FuncData} (F : Fun K "__init__" "Machine.__init__" sI fI fd) (T : Txt K mg) (O : Objs K mg cM cX fI fO fS pO pS mc) (C : Cal0 P w K mg base 6 "_are_states" 1 g__are_states) :
    FnR P w K mg base (L2.CX P w) 7 fI (spMk K cM cX "_states" g__are_states) := by
  obtain ⟨oc, od, kV, doc, pm, an, cdv, ct, osl, rfl, lk, hcd⟩ := F.ex
  refine init_of lk hcd scI (StX.bind_star1 (B := fun us => bindArgs _ { pos := us }) (fun a => rfl) (fun a r rs => rfl)) O.cl O.na g__are_states fun A outer s H E hr => ?_
  have tk : Takes (cxOf (L2.CX P w) P w K mg base ["self", "states"] "Machine.__init__" (defScope sI) fI cdv A outer s H E) (fun cls d _ H => E cls d H) := takes_of rfl rfl rfl rfl
  exact pss_cons (ps_if (dt_not (dt_tru (de_callN0 C hr (by rfl) (da_cons (de_var (pv 1)) da_nil))))
      (pss_one (ps_raise rfl tk (pmk_own PySem.F.excBase_ValueError O.xX O.gX O.kX (raises_own O.bX O.tX) (by exact rfl)))) pss_nil)
    (pss_one (ps_fld (pv 0) (pv 1) rfl))
theorem ok_of {fd : FuncData} (F : Fun K "of" "Machine.of" sO fO fd) (T : Txt K mg) (O : Objs K mg cM cX fI fO fS pO pS mc) (GI : FnR P w K mg base (L2.CX P w) 7 fI (spMk K cM cX "_states" g__are_states)) :
    FnOk P w K mg base (L2.CX P w) 9 fO fd ["cls", "states"] (spD K 2 (gOf cM cX "_states" g__are_states)) := by
  refine F.okX scO (fun vs H Q E h => h.1) fun cdv A outer s H vs Q E hr h => ⟨tOf K cM cX "_states" g__are_states E, ?_, pure_of h⟩
  have tk : Takes (cxOf (L2.CX P w) P w K mg base ["cls", "states"] "Machine.of" (defScope sO) fO cdv A outer s H E) (fun cls d _ H => E cls d H) := takes_of rfl rfl rfl rfl
  exact pss_cons (ps_if (dt_not (dt_tru (de_bi c_isi (by rfl) T.b_isinstance (by decide +kernel) (da_cons (de_var (pv 1)) (da_cons (de_ty (by rfl) T.b_tuple (by decide +kernel)) da_nil)))))
      (pss_one (ps_raise rfl tk (pmk_own PySem.F.excBase_ValueError O.xX O.gX O.kX (raises_own O.bX O.tX) (by exact rfl)))) pss_nil)
    (pss_one (ps_ret (pe_clsStar O.mko GI hr (passes_call tk fun cls d σ H h => h) (pv 0) (pv 1))))
theorem ok_get {fd : FuncData} (F : Fun K "states" "Machine.states" sS fS fd) (O : Objs K mg cM cX fI fO fS pO pS mc) : FnOk P w K mg base CX0 1 fS fd ["self"] (getSp cM "_states") := by
  obtain ⟨oc, od, kV, doc, pm, an, cdv, ct, osl, rfl, lk, hcd⟩ := F.ex
  exact fn_getter lk hcd scS rfl rfl O.cl O.na
theorem ok__law_is_taken {f : Addr} {fd fdO fdS : FuncData} (F : Fun K "_law_is_taken" "_law_is_taken" sT f fd) (T : Txt K mg) (O : Objs K mg cM cX fI fO fS pO pS mc)
    (GO : FnOk P w K mg base (L2.CX P w) 9 fO fdO ["cls", "states"] (spD K 2 (gOf cM cX "_states" g__are_states))) (bO : Binds K fdO ["cls", "states"] [])
    (GS : FnOk P w K mg base CX0 1 fS fdS ["self"] (getSp cM "_states")) (bS : Binds K fdS ["self"] []) : FnG P w K mg base CX0 10 f fd ["_law_value"] (g__law_is_taken cM cX) :=
  fnG_of F scT fun cdv A outer s H E hr hgd => by
    unfold f__law_is_taken
    exact ds_cons (ds_try rfl rfl ⟨rfl, by decide, Or.inl O.gX⟩ O.eX (fun te pn xe h => ps_set (i := 1) scT.nd rfl (Or.inl rfl) h)
        (fun E' pn xe hx => de_cmeth (de_fn (by rfl) O.gM) O.rd O.cm GO bO hr hx (da_cons (de_tup (da_cons (de_tup (da_cons (de_var (pv 0)) da_nil)) da_nil)) da_nil))
        (fun a oe pn => ds_one (ds_ret de_bl)))
      (ds_one (ds_ret (de_cmp (o_eq hr.units) (de_bi (c_repr (GD A hgd) hr.units) (by rfl) T.b_repr (by decide +kernel) (da_cons (de_prop (de_var (pv 1)) O.cl O.pr GS (hr.mono (by decide)) bS) da_nil))
        (de_bi (c_repr (GD A hgd) hr.units) (by rfl) T.b_repr (by decide +kernel) (da_cons (de_tup (da_cons (de_tup (da_cons (de_var (pv 0)) da_nil)) da_nil)) da_nil)) (nomark _))))
end
end K05
namespace K05
open PySem PySem.Spec PyProof.Rows L2 Den
/-! ### the drawn numbers -/
def Stk (M : Mem) (n : Nat) : Prop := ∃ a b c : Int, M[n]? = some (some [.int a, .int b, .int c])
theorem Stk.lt {M : Mem} {n : Nat} (h : Stk M n) : n < M.length := by
  obtain ⟨a, b, c, h⟩ := h
  exact (List.getElem?_eq_some_iff.mp h).1
theorem Stk.set {M : Mem} {n : Nat} (h : Stk M n) (a b c : Int) : Stk (M.set n (some [.int a, .int b, .int c])) n := ⟨a, b, c, by rw [List.getElem?_set_self h.lt]⟩
/-- nothing but the n-th list has changed -/
def Kp (n : Nat) (M M' : Mem) : Prop := M'.length = M.length ∧ ∀ m, m ≠ n → M'[m]? = M[m]?
theorem Kp.refl (n : Nat) (M : Mem) : Kp n M M := ⟨rfl, fun _ _ => rfl⟩
theorem Kp.trans {n : Nat} {M M1 M2 : Mem} (h : Kp n M M1) (k : Kp n M1 M2) : Kp n M M2 := ⟨k.1.trans h.1, fun m hm => (k.2 m hm).trans (h.2 m hm)⟩
theorem Kp.set {n : Nat} {M : Mem} (x : Option (List D)) : Kp n M (M.set n x) := ⟨by simp, fun m hm => List.getElem?_set_ne (Ne.symm hm)⟩
theorem draw_ok {M : Mem} {n : Nat} {t : Int} (h : Stk M n) (h0 : 0 < t) (h1 : t.natAbs.log2 < 9000) : ∃ (r : Int) (M' : Mem), g__law_draw [.loc n, .int t] M = .ok (.int r) M' ∧ 0 ≤ r ∧ r < t ∧ Stk M' n ∧ Kp n M M' := by
  obtain ⟨a, b, c, hM⟩ := h
  have hn := (List.getElem?_eq_some_iff.mp hM).1
  by_cases ha : 0 < a
  · refine ⟨a % t, M.set n (some [.int (a / t), .int b, .int c]), ?_, Int.emod_nonneg _ (by omega), Int.emod_lt_of_pos _ h0, ⟨_, _, _, by rw [List.getElem?_set_self hn]⟩, .set _⟩
    simp [g__law_draw, f__law_draw, hM, atI, ixN, ha, mod_ok h0, div_ok (show CDivW a t from ⟨h0, h1⟩)]
  · have e1 := Int.emod_nonneg (b + 1000357 * (c + 1)) (show (2305843009213693951 : Int) ≠ 0 by decide)
    have e2 := Int.emod_lt_of_pos (b + 1000357 * (c + 1)) (show (0 : Int) < 2305843009213693951 by decide)
    let x := (b + 1000357 * (c + 1)) % 2305843009213693951
    have m1 : mulC 1000357 (c + 1) := mul_l (by decide)
    have m2 : mulC x x := mul_l (by show -(2 ^ 64) < x ∧ x < 2 ^ 64; omega)
    have m3 : mulC (x * x % 2305843009213693921) x := mul_r (by show -(2 ^ 64) < x ∧ x < 2 ^ 64; omega)
    have m4 : mulC 9029 (c + 1) := mul_l (by decide)
    have d1 : ∀ y : Int, CDivW y 16384 := fun y => ⟨by decide, by decide⟩
    refine ⟨(x * x % 2305843009213693921 * x + 9029 * (c + 1)) % 2305843009213693907 / 16384 % t, M.set n (some [.int a, .int b, .int (c + 1)]), ?_, Int.emod_nonneg _ (by omega), Int.emod_lt_of_pos _ h0, ⟨_, _, _, by rw [List.getElem?_set_self hn]⟩, .set _⟩
    have hs : ∀ z : Option (List D), (M.set n z)[n]? = some z := fun z => by rw [List.getElem?_set_self hn]
    simp only [show x = (b + 1000357 * (c + 1)) % 2305843009213693951 from rfl] at m2 m3 ⊢
    simp [g__law_draw, f__law_draw, hM, hs, atI, ixN, ha, mod_ok h0, mul_ok m1, mul_ok m2, mul_ok m3, mul_ok m4, fun y M => div_ok (M := M) (d1 y), fun y M => mod_ok (M := M) (i := y) (show (0 : Int) < 2305843009213693951 by decide), fun y M => mod_ok (M := M) (i := y) (show (0 : Int) < 2305843009213693921 by decide), fun y M => mod_ok (M := M) (i := y) (show (0 : Int) < 2305843009213693907 by decide)]
theorem grow_at {M : Mem} (x : Option (List D)) : (M ++ [x])[M.length]? = some x := by simp
theorem ten60 : ∃ p : Int, 0 < p ∧ powC p 11 ∧ ∀ M, gPow (.int 10) (.int 60) M = .ok (.int p) M := ⟨10 ^ (60 : Int).toNat, Int.pow_pos (by decide), by decide +kernel, fun M => pow_ok (by decide +kernel)⟩
theorem ten18 : ∃ r : Int, ∀ M, gPow (.int 10) (.int 18) M = .ok (.int r) M := ⟨10 ^ (18 : Int).toNat, fun M => pow_ok (by decide +kernel)⟩
section
variable {M : Mem} {ns : List Int} {k : Nat} {p q r : Int}
theorem stock_in {v : Int} (hlt : k < ns.length) (hd : atI (ns.map D.int) (k : Int) = some (.int v)) (p1 : ∀ M, gPow (.int 10) (.int 60) M = .ok (.int p) M) (p2 : ∀ M, gPow (.int p) (.int 11) M = .ok (.int q) M) (p3 : ∀ M, gPow (.int 10) (.int 18) M = .ok (.int r) M) (hq : 0 < q) :
    ∃ x y z, g__law_stock [.scr (ns.map D.int), .int k] M = .ok (.loc M.length) (M ++ [some [.int x, .int y, .int z]]) := by
  have m1 : ∀ y M, gMul (.int y) (.int 78713) M = .ok (.int (y * 78713)) M := fun y M => mul_ok (mul_r (by decide))
  obtain ⟨u2, m2⟩ : ∃ u, ∀ M, gMul (.int 6007) (.int k) M = .ok (.int u) M := ⟨_, fun M => mul_ok (mul_l (by decide))⟩
  have m3 : ∀ y M, gMul (.int 29) (.int y) M = .ok (.int (29 * y)) M := fun y M => mul_ok (mul_l (by decide))
  have q0 : ∀ y M, gMod (.int y) (.int q) M = .ok (.int (y % q)) M := fun y M => mod_ok hq
  have q1 : ∀ y M, gMod (.int y) (.int 2147483423) M = .ok (.int (y % 2147483423)) M := fun y M => mod_ok (by decide)
  have q2 : ∀ y M, gMod (.int y) (.int 2305843009213693907) M = .ok (.int (y % 2305843009213693907)) M := fun y M => mod_ok (by decide)
  simp [g__law_stock, f__law_stock, hlt, hd, p1, p2, p3, m1, m2, m3, q0, q1, q2, line1k]
theorem stock_out (hlt : ¬ k < ns.length) (p1 : ∀ M, gPow (.int 10) (.int 60) M = .ok (.int p) M) (p2 : ∀ M, gPow (.int p) (.int 11) M = .ok (.int q) M) (p3 : ∀ M, gPow (.int 10) (.int 18) M = .ok (.int r) M) (hq : 0 < q) :
    ∃ x y z, g__law_stock [.scr (ns.map D.int), .int k] M = .ok (.loc M.length) (M ++ [some [.int x, .int y, .int z]]) := by
  obtain ⟨u, m0⟩ : ∃ u, ∀ M, gMul (.int 43) (.int k) M = .ok (.int u) M := ⟨_, fun M => mul_ok (mul_l (by decide))⟩
  have m1 : ∀ y M, gMul (.int y) (.int 78713) M = .ok (.int (y * 78713)) M := fun y M => mul_ok (mul_r (by decide))
  obtain ⟨u2, m2⟩ : ∃ u, ∀ M, gMul (.int 6007) (.int k) M = .ok (.int u) M := ⟨_, fun M => mul_ok (mul_l (by decide))⟩
  have m3 : ∀ y M, gMul (.int 29) (.int y) M = .ok (.int (29 * y)) M := fun y M => mul_ok (mul_l (by decide))
  have q0 : ∀ y M, gMod (.int y) (.int q) M = .ok (.int (y % q)) M := fun y M => mod_ok hq
  have q1 : ∀ y M, gMod (.int y) (.int 2147483423) M = .ok (.int (y % 2147483423)) M := fun y M => mod_ok (by decide)
  have q2 : ∀ y M, gMod (.int y) (.int 2305843009213693907) M = .ok (.int (y % 2305843009213693907)) M := fun y M => mod_ok (by decide)
  simp [g__law_stock, f__law_stock, hlt, p1, p2, p3, m0, m1, m2, m3, q0, q1, q2, line1k]
end
theorem stock_ok {M : Mem} {ns : List Int} {k : Nat} : ∃ M', g__law_stock [.scr (ns.map D.int), .int k] M = .ok (.loc M.length) M' ∧ Stk M' M.length := by
  obtain ⟨p, hp0, hp, p1⟩ := ten60
  obtain ⟨q, hq, p2⟩ : ∃ q : Int, 0 < q ∧ ∀ M, gPow (.int p) (.int 11) M = .ok (.int q) M := ⟨p ^ (11 : Int).toNat, Int.pow_pos hp0, fun M => pow_ok hp⟩
  obtain ⟨r, p3⟩ := ten18
  by_cases hlt : k < ns.length
  · obtain ⟨x, y, z, e⟩ := stock_in (M := M) hlt (atI_nat (v := D.int (ns[k]'hlt)) (by simp [hlt])) p1 p2 p3 hq
    exact ⟨_, e, _, _, _, grow_at _⟩
  · obtain ⟨x, y, z, e⟩ := stock_out (M := M) hlt p1 p2 p3 hq
    exact ⟨_, e, _, _, _, grow_at _⟩
theorem alpha_at : ∀ r : Nat, r < 26 → atI (Str.ofString "abcdefghijklmnopqrstuvwxyz").cps.toList (r : Int) = some (97 + r) := by decide +kernel
theorem alpha_len : (Str.ofString "abcdefghijklmnopqrstuvwxyz").length = 26 := by decide +kernel
theorem letter_ok {M : Mem} {n : Nat} (h : Stk M n) : ∃ (c : Nat) (M' : Mem), g__law_letter [.loc n] M = .ok (.str ⟨#[c]⟩) M' ∧ 97 ≤ c ∧ c ≤ 122 ∧ Stk M' n ∧ Kp n M M' := by
  obtain ⟨r, M', e, h0, h1, h2, h3⟩ := draw_ok h (t := 26) (by decide) (by decide)
  have ha := alpha_at r.toNat (by omega)
  rw [Int.toNat_of_nonneg h0] at ha
  refine ⟨97 + r.toNat, M', ?_, by omega, by omega, h2, h3⟩
  simp [g__law_letter, f__law_letter, e, ha, alpha_len, line1k]
theorem pick_ok {M : Mem} {n : Nat} {xs : List D} (h : Stk M n) (h0 : 0 < xs.length) (h1 : xs.length < 1000000) : ∃ (d : D) (M' : Mem), g__law_pick [.loc n, .lst xs] M = .ok d M' ∧ d ∈ xs ∧ Stk M' n ∧ Kp n M M' := by
  obtain ⟨r, M', e, r0, r1, h2, h3⟩ := draw_ok h (t := (xs.length : Int)) (by omega) (by
    have : (xs.length : Int).natAbs = xs.length := rfl
    rw [this]
    have := (Nat.log2_lt (by omega)).mpr (Nat.lt_trans h1 (show 1000000 < 2 ^ 20 by decide))
    omega)
  have hn : (r.toNat : Int) = r := Int.toNat_of_nonneg r0
  have hx : xs[r.toNat]? = some (xs[r.toNat]'(by omega)) := by simp
  have ha := atI_nat hx
  rw [hn] at ha
  refine ⟨_, M', ?_, List.getElem_mem (l := xs) (n := r.toNat) (by omega), h2, h3⟩
  simp [g__law_pick, f__law_pick, e, ha]
end K05
namespace K05
open PySem PySem.Spec PyProof.Rows L2 Den
theorem repr_bl (b : Bool) (M : Mem) : gRepr [.bl b] M = .ok (.str (PyData.shown (.bool b))) M := by
  have h : reprOk (.bool b) = true := by cases b <;> decide +kernel
  simp [toPy, h]
theorem alpha_in {c : Nat} : (c ∈ cs (Str.ofString "abcdefghijklmnopqrstuvwxyz")) ↔ 97 ≤ c ∧ c ≤ 122 := by
  have e : cs (Str.ofString "abcdefghijklmnopqrstuvwxyz") = (List.range 26).map (97 + ·) := by decide +kernel
  rw [e]
  simp only [List.mem_map, List.mem_range]
  constructor
  · rintro ⟨k, hk, rfl⟩; omega
  · rintro ⟨h1, h2⟩; exact ⟨c - 97, by omega, by omega⟩
def okc (c : Nat) : Bool := decide (97 ≤ c ∧ c ≤ 122)
theorem lt_one (a b : Nat) : decide ([a] < [b]) = decide (a < b) := by
  rw [decide_eq_decide]
  constructor
  · intro h
    cases h with
    | rel h => exact h
    | cons h => cases h
  · exact fun h => List.Lex.rel h
def vW : D → D
  | .str s => .bl ((cs s).all okc)
  | d => d
theorem bls_vw : ∀ l : List Nat, bls? ((l.map fun c => D.str ⟨#[c]⟩).map vW) = some (l.map okc)
  | [] => rfl
  | c :: l => by
    have ih := bls_vw l
    simp only [List.map_cons, vW]
    unfold bls?
    rw [ih]
    simp [cs]
theorem str_a : Str.ofString "a" = ⟨#[97]⟩ := by decide +kernel
theorem str_z : Str.ofString "z" = ⟨#[122]⟩ := by decide +kernel
theorem le_one (a b : Nat) (M : Mem) : gLe' (.str ⟨#[a]⟩) (.str ⟨#[b]⟩) M = .ok (.bl (decide (a ≤ b))) M := by
  show Out.ok (D.bl (!decide ([b] < [a]))) M = _
  rw [lt_one, show (!decide (b < a)) = decide (a ≤ b) from by by_cases h : b < a <;> simp [h] <;> omega]
theorem le_int (i j : Int) (M : Mem) : gLe' (.int i) (.int j) M = .ok (.bl (decide (i ≤ j))) M := rfl
/-- whether a text is a word -/
def isW (z : Str) : Bool := decide (1 ≤ z.length ∧ z.length ≤ 8) && (cs z).all okc
theorem is_word_ok {z : Str} (h : z.length ≤ 10000) (M : Mem) : g_is_word [.str z] M = .ok (.bl (isW z)) M := by
  have zl : z.length ≤ lineD := line1k h
  have hlen : (Den.signs z).length = z.length := by simp [Den.signs, Str.length]
  by_cases hz : 1 ≤ z.length ∧ z.length ≤ 8
  · obtain ⟨h1, h8⟩ := id hz
    have hs : (Den.signs z).length ≤ lineD := by rw [hlen]; exact zl
    have c1 : ∀ M, lcD (gNm 1) tTrue (eChain gLe' gLe' (eStr "a") (eVar 1) (eStr "z")) [some (.str z), none] (Den.signs z) M = .ok ((Den.signs z).map vW) M := fun M => by
      have := lcD_pure (g := gNm 1) (t := tTrue) (f := eChain gLe' gLe' (eStr "a") (eVar 1) (eStr "z")) (ρ := [some (.str z), none]) (M := M) (fun _ => true) vW (xs := Den.signs z) (by
        intro d hd
        unfold Den.signs at hd
        obtain ⟨c, _, rfl⟩ := List.mem_map.mp hd
        refine ⟨_, rfl, rfl, fun _ => ?_⟩
        simp only [eChain, eVar, Out.bind_ok, List.set_cons_succ, List.set_cons_zero, List.getElem?_cons_succ, List.getElem?_cons_zero, str_a, str_z, le_one, asB]
        by_cases h1 : 97 ≤ c
        · simp only [h1, decide_true, if_pos, le_one, vW, cs, okc, List.all_cons, List.all_nil, Bool.and_true, true_and]
        · simp only [h1, decide_false, Bool.false_eq_true, if_false, vW, cs, okc, List.all_cons, List.all_nil, Bool.and_true, false_and])
      rwa [List.filter_eq_self.mpr fun _ _ => rfl] at this
    have b := bls_vw (cs z)
    have k1 : (1 : Int) ≤ z.length := by omega
    have k8 : (z.length : Int) ≤ 8 := by omega
    have ws : wipeD [some (D.str z), none] [1] = [some (D.str z), none] := rfl
    have b' : bls? ((Den.signs z).map vW) = some ((cs z).map okc) := b
    have e : isW z = (cs z).all okc := by unfold isW; rw [decide_eq_true hz]; rfl
    rw [e]
    simp [g_is_word, f_is_word, tyS, isiB, zl, k1, k8, hs, ws, c1, gAll, b', line1k, -gLe'_ap, le_int]
  · have e : isW z = false := by unfold isW; rw [decide_eq_false hz]; rfl
    rw [e]
    by_cases h1 : (1 : Int) ≤ z.length
    · have h8 : ¬ (z.length : Int) ≤ 8 := by omega
      simp [g_is_word, f_is_word, tyS, isiB, zl, h1, h8, -gLe'_ap, le_int]
    · simp [g_is_word, f_is_word, tyS, isiB, zl, h1, -gLe'_ap, le_int]
/-! ### texts of letters -/
def Low (n : Nat) (z : Str) : Prop := (cs z).length ≤ n ∧ ∀ c ∈ cs z, 97 ≤ c ∧ c ≤ 122
theorem Low.len {n : Nat} {z : Str} (h : Low n z) (hn : n ≤ 10000) : z.length ≤ lineD := line1k (by rw [cs_len]; exact Nat.le_trans h.1 hn)
theorem Low.app {n m : Nat} {y z : Str} (h : Low n y) (k : Low m z) : Low (n + m) (y ++ z) := by
  refine ⟨by rw [cs_app, List.length_append]; have := h.1; have := k.1; omega, fun c hc => ?_⟩
  rw [cs_app] at hc
  exact (List.mem_append.mp hc).elim (h.2 c) (k.2 c)
theorem Low.cut {n : Nat} {z : Str} (h : Low n z) (lo hi : Option Int) : Low n (cutS z lo hi) := by
  refine ⟨by rw [cs_cut]; exact Nat.le_trans (cut_len _ _ _) h.1, fun c hc => ?_⟩
  rw [cs_cut] at hc
  exact h.2 c (cut_mem hc)
theorem Low.mono {n m : Nat} {z : Str} (h : Low n z) (k : n ≤ m) : Low m z := ⟨Nat.le_trans h.1 k, h.2⟩
theorem Low.app_ok {n m : Nat} {y z : Str} (h : Low n y) (k : Low m z) (hz : n + m ≤ 10000) : y.length + z.length ≤ lineD := line1k (by rw [cs_len, cs_len]; have := h.1; have := k.1; omega)
theorem Low.all {n : Nat} {z : Str} (h : Low n z) : (cs z).all okc = true := by
  rw [List.all_eq_true]
  intro c hc
  exact decide_eq_true (h.2 c hc)
theorem Low.isW {n : Nat} {z : Str} (h : Low n z) : isW z = decide (1 ≤ z.length ∧ z.length ≤ 8) := by unfold K05.isW; rw [h.all, Bool.and_true]
/-- one letter -/
def Let (d : D) : Prop := ∃ c : Nat, d = .str ⟨#[c]⟩ ∧ 97 ≤ c ∧ c ≤ 122
theorem Let.low {c : Nat} (h : 97 ≤ c ∧ c ≤ 122) : Low 1 ⟨#[c]⟩ := ⟨by simp [cs], fun x hx => by simp [cs] at hx; rw [hx]; exact h⟩
theorem strs_let : ∀ {ds : List D}, (∀ d ∈ ds, Let d) → ∃ zs, Den.strs? ds = some zs ∧ ds = zs.map D.str ∧ ∀ z ∈ zs, Low 1 z
  | [], _ => ⟨[], rfl, rfl, fun _ h => (nomatch h)⟩
  | d :: ds, h => by
    obtain ⟨c, rfl, hz⟩ := h d List.mem_cons_self
    obtain ⟨zs, e, rfl, hf⟩ := strs_let fun d hd => h d (List.mem_cons_of_mem _ hd)
    refine ⟨⟨#[c]⟩ :: zs, by unfold Den.strs?; rw [e]; rfl, rfl, fun y hy => ?_⟩
    rcases List.mem_cons.mp hy with q | q
    · rw [q]; exact Let.low hz
    · exact hf y q
theorem flat_low {n : Nat} : ∀ {zs : List Str}, (∀ z ∈ zs, Low n z) → ((zs.map cs).flatten.length ≤ zs.length * n) ∧ ∀ c ∈ (zs.map cs).flatten, 97 ≤ c ∧ c ≤ 122
  | [], _ => ⟨by simp, by simp⟩
  | z :: zs, h => by
    have ih := flat_low (n := n) (zs := zs) fun y hy => h y (List.mem_cons_of_mem _ hy)
    have hz := h z List.mem_cons_self
    refine ⟨?_, fun c hc => ?_⟩
    · rw [List.map_cons, List.flatten_cons, List.length_append, List.length_cons, Nat.succ_mul]
      have := hz.1
      omega
    · rw [List.map_cons, List.flatten_cons] at hc
      exact (List.mem_append.mp hc).elim (hz.2 c) (ih.2 c)
theorem sum_low {n : Nat} : ∀ {zs : List Str}, (∀ z ∈ zs, Low n z) → (zs.map (·.length)).sum ≤ zs.length * n
  | [], _ => by simp
  | z :: zs, h => by
    have ih := sum_low (n := n) (zs := zs) fun y hy => h y (List.mem_cons_of_mem _ hy)
    have hz := (h z List.mem_cons_self).1
    rw [List.map_cons, List.sum_cons, List.length_cons, Nat.succ_mul, cs_len]
    omega
/-- a comprehension without a test, its turns counted -/
theorem lcD_all {g : TgD} {f : FE} {ρ : Ro} (I : Nat → Mem → Prop) (P : D → Prop) : ∀ {xs : List D} {M : Mem} (k : Nat), (∀ d ∈ xs, ∀ i M, i < k + xs.length → I i M → ∃ ρ1 y M2, g d ρ = some ρ1 ∧ f ρ1 M = .ok y M2 ∧ P y ∧ I (i + 1) M2) → I k M →
    ∃ ys M', lcD g tTrue f ρ xs M = .ok ys M' ∧ (∀ y ∈ ys, P y) ∧ ys.length = xs.length ∧ I (k + xs.length) M'
  | [], M, k, _, h0 => ⟨[], M, rfl, fun _ h => (nomatch h), rfl, h0⟩
  | d :: ds, M, k, h, h0 => by
    obtain ⟨ρ1, y, M2, e1, e2, p2, h2⟩ := h d List.mem_cons_self k M (by simp) h0
    obtain ⟨ys, M', e3, p3, l3, i3⟩ := lcD_all (g := g) (f := f) (ρ := ρ) I P (xs := ds) (M := M2) (k + 1) (fun d hd i M hi => h d (List.mem_cons_of_mem _ hd) i M (by simp only [List.length_cons]; omega)) h2
    refine ⟨y :: ys, M', ?_, fun z hz => ?_, by rw [List.length_cons, List.length_cons, l3], by rw [List.length_cons, show k + (ds.length + 1) = k + 1 + ds.length by omega]; exact i3⟩
    · unfold lcD
      rw [e1]
      dsimp only [tTrue]
      simp only [Out.noX, Out.bind_ok, if_pos]
      rw [e2]
      simp only [Out.noX, Out.bind_ok]
      rw [e3]
      rfl
    · rcases List.mem_cons.mp hz with q | q
      · rw [q]; exact p2
      · exact p3 z q
end K05
namespace K05
open PySem PySem.Spec PyProof.Rows L2 Den
/-- a text of drawn letters -/
theorem tail_ok {M : Mem} {n : Nat} (h : Stk M n) (ρ : Ro) (h0 : ρ[0]? = some (some (.loc n))) : ∃ (z : Str) (M' : Mem),
    (eJoin (eStr "") (eLc (iRg1 (aCons (eCall (g__law_draw) [] 2 (aCons (eVar 0) (aCons (eInt 8) aNil))) aNil)) (gNm 7) [7] tTrue (eCall (g__law_letter) [] 1 (aCons (eVar 0) aNil)))) ρ M = .ok (.str z) M' ∧ Low 7 z ∧ Stk M' n ∧ Kp n M M' := by
  obtain ⟨r, M1, e1, r0, r1, s1, k1⟩ := draw_ok h (t := 8) (by decide) (by decide)
  have hrg : (rangeD 0 r).length = r.toNat := by rw [rangeD_len]; congr 1; omega
  have hw : (wipeD ρ [7])[0]? = some (some (.loc n)) := by show (ρ.set 7 none)[0]? = _; rw [List.getElem?_set_ne (by decide)]; exact h0
  obtain ⟨ys, M2, e2, p2, l2, s2, k2⟩ := lcD_all (g := gNm 7) (f := eCall g__law_letter [] 1 (aCons (eVar 0) aNil)) (ρ := wipeD ρ [7]) (fun _ M' => Stk M' n ∧ Kp n M M') Let (xs := rangeD 0 r) (M := M1) 0 (by
    rintro d hd i M2 hi ⟨hM, hk⟩
    obtain ⟨c, M', e, c0, c1, s', k'⟩ := letter_ok hM
    refine ⟨_, .str ⟨#[c]⟩, M', rfl, ?_, ⟨c, rfl, c0, c1⟩, s', hk.trans k'⟩
    simp [gNm, List.getElem?_set_ne, hw, e]) ⟨s1, k1⟩
  obtain ⟨zs, e3, e4, hf⟩ := strs_let p2
  have hl : zs.length ≤ 7 := by rw [e4, List.length_map] at l2; omega
  have he : cs (Str.ofString "") = [] := by decide +kernel
  have e0 : (Str.ofString "").length = 0 := by decide +kernel
  have f1 := flat_low hf
  have f2 := sum_low hf
  refine ⟨Txt.join (Str.ofString "") zs, M2, ?_, ⟨by rw [cs_join he]; omega, by rw [cs_join he]; exact f1.2⟩, s2, k2⟩
  have c1 : r.toNat ≤ lineD := line1k (by omega)
  have c2 : (zs.map (·.length)).sum ≤ lineD := line1k (by omega)
  have b0 : -1000000000 ≤ r := by omega
  have b1 : r ≤ 1000000000 := by omega
  simp [h0, e1, b0, b1, hrg, c1, e2, e3, e0, c2]
def alpha : Str := Str.ofString "abcdefghijklmnopqrstuvwxyz"
theorem alpha_let : ∀ d ∈ Den.signs alpha, Let d := by
  intro d hd
  unfold Den.signs at hd
  obtain ⟨c, hc, rfl⟩ := List.mem_map.mp hd
  exact ⟨c, rfl, alpha_in.mp hc⟩
theorem al_len : alpha.length = 26 := by decide +kernel
theorem alpha_signs : (Den.signs alpha).length = 26 := by decide +kernel
theorem log26 {k : Nat} (h : k ≤ 26) : (k : Int).natAbs.log2 < 9000 := by
  have e : (k : Int).natAbs = k := rfl
  rw [e]
  rcases Nat.eq_zero_or_pos k with q | q
  · rw [q]; decide
  · have := (Nat.log2_lt (n := k) (k := 5) (by omega)).mpr (by omega)
    omega
/-- the letters in a drawn order -/
theorem shuffled_ok {M : Mem} {n : Nat} (h : Stk M n) : ∃ (ys : List D) (M' : Mem), g__law_shuffled [.loc n, .str alpha] M = .ok (.lst ys) M' ∧ (∀ y ∈ ys, Let y) ∧ ys.length = 26 ∧ Stk M' n ∧ M'.length = M.length + 1 ∧ ∀ m, m ≠ n → m < M.length → M'[m]? = M[m]? := by
  have hn := h.lt
  have ne : M.length ≠ n := by omega
  have s0 : Stk (M ++ [some (Den.signs alpha)]) n := by
    obtain ⟨a, b, c, e⟩ := h
    exact ⟨a, b, c, by rw [List.getElem?_append_left hn]; exact e⟩
  have hrg : (rangeD 0 26).length = 26 := rfl
  obtain ⟨ys, M2, e2, p2, l2, s2, q2, k2, o2⟩ := lcD_all (g := gNm 3) (f := ePop (eVar 2) (eCall (g__law_draw) [] 2 (aCons (eVar 0) (aCons (eApp gLen (aCons (eVar 2) aNil)) aNil)))) (ρ := [some (.loc n), some (.str alpha), some (.loc M.length), none])
    (fun i M' => Stk M' n ∧ (∃ ls, M'[M.length]? = some (some ls) ∧ ls.length = 26 - i ∧ ∀ d ∈ ls, Let d) ∧ M'.length = M.length + 1 ∧ ∀ m, m ≠ n → m < M.length → M'[m]? = M[m]?) Let (xs := rangeD 0 26) (M := M ++ [some (Den.signs alpha)]) 0 (by
    rintro d hd i M1 hi ⟨hs, ⟨ls, hM, hl, ha⟩, hk, ho⟩
    rw [hrg] at hi
    obtain ⟨r, M3, e3, r0, r1, s3, k3⟩ := draw_ok hs (t := (ls.length : Int)) (by omega) (log26 (by omega))
    have hM3 : M3[M.length]? = some (some ls) := by rw [k3.2 _ ne]; exact hM
    have hr : r.toNat < ls.length := by omega
    have hx : ixN ls.length r = some r.toNat := by unfold ixN; rw [if_pos r0, if_pos r1]
    have hg : ls[r.toNat]? = some (ls[r.toNat]'hr) := by simp [hr]
    have hlt3 : M.length < M3.length := (List.getElem?_eq_some_iff.mp hM3).1
    refine ⟨_, ls[r.toNat]'hr, M3.set M.length (some (ls.eraseIdx r.toNat)), rfl, ?_, ha _ (List.getElem_mem hr), ?_, ⟨ls.eraseIdx r.toNat, by rw [List.getElem?_set_self hlt3], by rw [List.length_eraseIdx_of_lt hr]; omega, fun d hd => ha d (List.mem_of_mem_eraseIdx hd)⟩, by rw [List.length_set, k3.1]; exact hk, fun m hm hlt => ?_⟩
    · have b0 : -1000000 ≤ r := by omega
      have b1 : r ≤ 1000000 := by omega
      simp [hM, e3, hM3, b0, b1, hx, hg]
    · obtain ⟨a, b, c, e⟩ := s3
      exact ⟨a, b, c, by rw [List.getElem?_set_ne ne]; exact e⟩
    · rw [List.getElem?_set_ne (by omega), k3.2 m hm]
      exact ho m hm hlt) ⟨s0, ⟨_, grow_at _, alpha_signs, alpha_let⟩, by simp, fun m hm hlt => by rw [List.getElem?_append_left hlt]⟩
  refine ⟨ys, M2, ?_, p2, by rw [l2, hrg], s2, k2, o2⟩
  have ws : wipeD [some (D.loc n), some (.str alpha), some (.loc M.length), none] [3] = [some (D.loc n), some (.str alpha), some (.loc M.length), none] := rfl
  simp [g__law_shuffled, f__law_shuffled, al_len, hrg, line1k, ws, e2]
end K05
namespace K05
open PySem PySem.Spec PyProof.Rows L2 Den
/-- a word -/
def Word (d : D) : Prop := ∃ z, d = .str z ∧ Low 8 z ∧ 1 ≤ z.length
theorem log9 {z : Str} (h : Low 8 z) : ((z.length : Int) + 1).natAbs.log2 < 9000 := by
  have e : ((z.length : Int) + 1).natAbs = z.length + 1 := by omega
  rw [e]
  have h8 := h.1
  rw [← cs_len] at h8
  have := (Nat.log2_lt (n := z.length + 1) (k := 4) (by omega)).mpr (by omega)
  omega
theorem app_len (a b : Str) : (a ++ b).length = a.length + b.length := by rw [cs_len, cs_len, cs_len, cs_app, List.length_append]
theorem one_len (c : Nat) : (⟨#[c]⟩ : Str).length = 1 := by simp [Str.length]
theorem cutD_split {α : Type} (xs : List α) {p : Int} (h0 : 0 ≤ p) : (cutD xs none (some p)).length + (cutD xs (some p) none).length = xs.length := by
  unfold Den.cutD
  simp only [HT.sIx]
  simp
  omega
abbrev wBody : FS := (sIf (fB (eTwo gEq (eVar 5) (eInt 0))) (sExpr (eAppend (eVar 6) (eTwo gAdd (eTwo gAdd (eCut (eVar 4) oNo (oSo (eVar 2))) (eVar 3)) (eCut (eVar 4) (oSo (eVar 2)) oNo)))) (sExpr (eAppend (eVar 6) (eTwo gAdd (eVar 3) (eCut (eVar 4) oNo (oSo (eCall (g__law_draw) [] 2 (aCons (eVar 0) (aCons (eTwo gAdd (eApp gLen (aCons (eVar 4) aNil)) (eInt 1)) aNil)))))))))
theorem turn_ok {n f : Nat} {M : Mem} {p w : Int} {z : Str} {ws : List D} {d : D} (hs : Stk M n) (hf : M[f]? = some (some ws)) (nf : f ≠ n) (hw : ∀ x ∈ ws, Word x) (hl : ws.length ≤ 2) (hz : Low 7 z) (hp : 0 ≤ p) (hd : Let d) (x : Option D) :
    ∃ M' y, wBody [some (.loc n), some (.int 2), some (.int p), some d, some (.str z), some (.int w), some (.loc f), x] M = .ok (.nx [some (.loc n), some (.int 2), some (.int p), some d, some (.str z), some (.int w), some (.loc f), x]) M' ∧ Stk M' n ∧ M'[f]? = some (some (ws ++ [y])) ∧ Word y := by
  obtain ⟨c, rfl, hc⟩ := hd
  have lc := Let.low hc
  have zl := hz.len (by decide)
  have hlt := (List.getElem?_eq_some_iff.mp hf).1
  have stk : ∀ {M' : Mem} (v : Option (List D)), Stk M' n → Stk (M'.set f v) n := fun v ⟨a, b, c, e⟩ => ⟨a, b, c, by rw [List.getElem?_set_ne nf]; exact e⟩
  have n1 : ws.length + 1 ≤ lineD := line1k (by omega)
  by_cases h0 : w = 0
  · have c1 := hz.cut none (some p)
    have c2 := hz.cut (some p) none
    have a1 := c1.app lc
    have k1 := c1.app_ok lc (by decide)
    have k2 := a1.app_ok c2 (by decide)
    have hsp := cutD_split (cs z) hp
    have l8 : Low 8 (cutS z none (some p) ++ ⟨#[c]⟩ ++ cutS z (some p) none) := by
      refine ⟨?_, (a1.app c2).2⟩
      rw [cs_app, cs_app, List.length_append, List.length_append, cs_cut, cs_cut]
      have := hz.1
      have e1 : (cs (⟨#[c]⟩ : Str)).length = 1 := by simp [cs]
      omega
    refine ⟨M.set f (some (ws ++ [.str (cutS z none (some p) ++ ⟨#[c]⟩ ++ cutS z (some p) none)])), .str (cutS z none (some p) ++ ⟨#[c]⟩ ++ cutS z (some p) none), ?_, stk _ hs, by rw [List.getElem?_set_self hlt], ⟨_, rfl, l8, by rw [app_len, app_len, one_len]; omega⟩⟩
    simp [wBody, h0, hf, zl, k1, k2, n1]
  · obtain ⟨r, M1, e1, r0, r1, s1, kp⟩ := draw_ok hs (t := (z.length : Int) + 1) (by omega) (log9 (hz.mono (by decide)))
    have c1 := hz.cut none (some r)
    have k1 := lc.app_ok c1 (by decide)
    have hf1 : M1[f]? = some (some ws) := by rw [kp.2 f nf]; exact hf
    have hlt1 := (List.getElem?_eq_some_iff.mp hf1).1
    refine ⟨M1.set f (some (ws ++ [.str (⟨#[c]⟩ ++ cutS z none (some r))])), .str (⟨#[c]⟩ ++ cutS z none (some r)), ?_, stk _ s1, by rw [List.getElem?_set_self hlt1], ⟨_, rfl, lc.app c1, by rw [app_len, one_len]; omega⟩⟩
    simp [wBody, h0, hf, hf1, zl, e1, k1, n1]
/-- two words -/
theorem many_ok {M : Mem} {n : Nat} (h : Stk M n) : ∃ (a b : D) (M' : Mem), g__law_many_words [.loc n, .int 2] M = .ok (.lst [a, b]) M' ∧ Word a ∧ Word b ∧ Stk M' n := by
  obtain ⟨z, M1, e1, lz, s1, k1⟩ := tail_ok h [some (.loc n), some (.int 2), none, none, none, none, none, none] rfl
  obtain ⟨w, M2, e2, w0, w1, s2, k2⟩ := draw_ok s1 (t := 2) (by decide) (by decide)
  have lt2 := s2.lt
  have s3 : Stk (M2 ++ [some []]) n := by
    obtain ⟨a, b, c, e⟩ := s2
    exact ⟨a, b, c, by rw [List.getElem?_append_left lt2]; exact e⟩
  have nf : M2.length ≠ n := by omega
  obtain ⟨p, M3, e3, p0, p1, s4, k4⟩ := draw_ok s3 (t := (z.length : Int) + 1) (by omega) (log9 (lz.mono (by decide)))
  have f3 : M3[M2.length]? = some (some []) := by rw [k4.2 _ nf]; exact grow_at _
  obtain ⟨ys, M4, e4, ly, ll, s5, k5, o5⟩ := shuffled_ok s4
  have hlt3 := (List.getElem?_eq_some_iff.mp f3).1
  have f4 : M4[M2.length]? = some (some []) := by rw [o5 _ nf hlt3]; exact f3
  match ys, ly, ll, e4 with
  | y1 :: y2 :: rest, ly, ll, e4 =>
    obtain ⟨M5, v1, g1, t1, f5, wv1⟩ := turn_ok (p := p) (w := w) s5 f4 nf (fun _ h => (nomatch h)) (by simp) lz p0 (ly y1 (by simp)) none
    obtain ⟨M6, v2, g2, t2, f6, wv2⟩ := turn_ok (p := p) (w := w) t1 f5 nf (fun x hx => by simp at hx; rw [hx]; exact wv1) (by simp) lz p0 (ly y2 (by simp)) none
    have hc : cutD (y1 :: y2 :: rest) none (some 2) = [y1, y2] := by
      have h26 : rest.length = 24 := by simpa using ll
      unfold Den.cutD
      simp [HT.sIx, h26]
    refine ⟨v1, v2, M6.set M2.length none, ?_, wv1, wv2, ?_⟩
    · have q1 : loopD (gNm 3) wBody [y1, y2] [some (.loc n), some (.int 2), some (.int p), none, some (.str z), some (.int w), some (.loc M2.length), none] M4 = .ok (.nx [some (.loc n), some (.int 2), some (.int p), some y2, some (.str z), some (.int w), some (.loc M2.length), none]) M6 := by
        simp only [loopD, gNm, List.set_cons_succ, List.set_cons_zero, g1, g2, Out.bind_ok]
      have lt6 : (y1 :: y2 :: rest).length ≤ lineD := line1k (by omega)
      simp only [alpha] at e4
      simp only [List.nil_append, List.cons_append] at f6
      simp [g__law_many_words, f__law_many_words, e1, e2, e3, e4, itD, hc, q1, f6, lz.len (by decide), line1k, -eJoin, -eLc, -sIf]
    · obtain ⟨a, b, c, e⟩ := t2
      exact ⟨a, b, c, by rw [List.getElem?_set_ne nf]; exact e⟩
end K05
namespace K05
open PySem PySem.Spec PyProof.Rows L2 Den
/-! ### the values that stand in the parts of moves -/
def Pl (d : D) : Prop := match d with
  | .non | .bl _ | .int _ | .dct _ _ => True
  | .tup xs => ∃ ys, toPys xs = some ys ∧ SeqAt.shaped (.tuple ys) = true
  | .lst xs => ∃ ys, toPys xs = some ys ∧ SeqAt.shaped (.list ys) = true
  | .str z => z.length ≤ 10000 ∧ ∀ c ∈ cs z, c < 128
  | _ => False
def kW (d : D) : Bool := match d with
  | .str z => isW z
  | _ => false
def bel (d : D) (n : Int) : Bool := match d with
  | .int i => decide (0 ≤ i) && decide (i < n)
  | _ => false
def sIs (d : D) (s : Str) : Bool := match d with
  | .str z => decide (z = s)
  | _ => false
theorem is_word_any {d : D} (h : Pl d) (M : Mem) : g_is_word [d] M = .ok (.bl (kW d)) M := by
  cases d with
  | str z => exact is_word_ok h.1 M
  | non => simp [g_is_word, f_is_word, kW, tyS, isiB]
  | bl b => simp [g_is_word, f_is_word, kW, tyS, isiB]
  | int i => simp [g_is_word, f_is_word, kW, tyS, isiB]
  | tup xs => simp [g_is_word, f_is_word, kW, tyS, isiB]
  | lst xs => simp [g_is_word, f_is_word, kW, tyS, isiB]
  | dct ks xs => simp [g_is_word, f_is_word, kW, tyS, isiB]
  | _ => exact h.elim
theorem ten60' : ∃ p : Int, 1000 ≤ p ∧ ∀ M, gPow (.int 10) (.int 60) M = .ok (.int p) M := ⟨10 ^ (60 : Int).toNat, by decide +kernel, fun M => pow_ok (by decide +kernel)⟩
theorem lt_int (i j : Int) (M : Mem) : gLt' (.int i) (.int j) M = .ok (.bl (decide (i < j))) M := rfl
theorem is_integer_int (i : Int) : ∃ b : Bool, (-1000 < i → i < 1000 → b = true) ∧ ∀ M, g_is_integer [.int i] M = .ok (.bl b) M := by
  obtain ⟨p, hp, e⟩ := ten60'
  refine ⟨decide (-p < i) && decide (i < p), fun h1 h2 => ?_, fun M => ?_⟩
  · rw [decide_eq_true (by omega : -p < i), decide_eq_true (by omega : i < p)]; rfl
  · by_cases h : -p < i
    · simp [g_is_integer, f_is_integer, tyS, isiB, e, lt_int, h, -gLt'_ap]
    · simp [g_is_integer, f_is_integer, tyS, isiB, e, lt_int, h, -gLt'_ap]
theorem is_integer_oth {d : D} (h : Pl d) (hi : ∀ i, d ≠ .int i) (M : Mem) : g_is_integer [d] M = .ok (.bl false) M := by
  cases d with
  | int i => exact absurd rfl (hi i)
  | str z => simp [g_is_integer, f_is_integer, tyS, isiB]
  | non => simp [g_is_integer, f_is_integer, tyS, isiB]
  | bl b => simp [g_is_integer, f_is_integer, tyS, isiB]
  | tup xs => simp [g_is_integer, f_is_integer, tyS, isiB]
  | lst xs => simp [g_is_integer, f_is_integer, tyS, isiB]
  | dct ks xs => simp [g_is_integer, f_is_integer, tyS, isiB]
  | _ => exact h.elim
theorem is_below_any {d : D} (h : Pl d) {n : Int} (hn : n ≤ 1000) (M : Mem) : g_is_below [d, .int n] M = .ok (.bl (bel d n)) M := by
  by_cases hi : ∃ i, d = .int i
  · obtain ⟨i, rfl⟩ := hi
    obtain ⟨b, hb, e⟩ := is_integer_int i
    cases b with
    | true =>
      by_cases h0 : 0 ≤ i
      · simp [g_is_below, f_is_below, e, bel, h0, le_int, lt_int, -gLt'_ap, -gLe'_ap]
      · simp [g_is_below, f_is_below, e, bel, h0, le_int, lt_int, -gLt'_ap, -gLe'_ap]
    | false =>
      have : ¬ (0 ≤ i ∧ i < n) := fun z => by have := hb (by omega) (by omega); cases this
      have e2 : bel (.int i) n = false := by
        show (decide (0 ≤ i) && decide (i < n)) = false
        by_cases q : 0 ≤ i <;> simp [q] <;> omega
      rw [e2]
      simp [g_is_below, f_is_below, e]
  · have e := is_integer_oth h (fun i q => hi ⟨i, q⟩) M
    have e2 : bel d n = false := by unfold bel; split <;> first | rfl | exact absurd ⟨_, rfl⟩ hi
    rw [e2]
    simp [g_is_below, f_is_below, e]
theorem is_price_any {d : D} (h : Pl d) (M : Mem) : g_is_price [d] M = .ok (.bl (bel d 10)) M := by
  simp [g_is_price, f_is_price, is_below_any h]
theorem law_below {d : D} (h : Pl d) {n : Int} (M : Mem) : g__law_is_below [d, .int n] M = .ok (.bl (bel d (n + 1))) M := by
  cases d with
  | int i =>
    have e : decide (i < n + 1) = decide (i ≤ n) := by rw [decide_eq_decide]; omega
    by_cases h0 : 0 ≤ i
    · simp [g__law_is_below, f__law_is_below, tyS, isiB, bel, e, h0, le_int, -gLe'_ap]
    · simp [g__law_is_below, f__law_is_below, tyS, isiB, bel, e, h0, le_int, -gLe'_ap]
  | str z => simp [g__law_is_below, f__law_is_below, tyS, isiB, bel]
  | non => simp [g__law_is_below, f__law_is_below, tyS, isiB, bel]
  | bl b => simp [g__law_is_below, f__law_is_below, tyS, isiB, bel]
  | tup xs => simp [g__law_is_below, f__law_is_below, tyS, isiB, bel]
  | lst xs => simp [g__law_is_below, f__law_is_below, tyS, isiB, bel]
  | dct ks xs => simp [g__law_is_below, f__law_is_below, tyS, isiB, bel]
  | _ => exact h.elim

/-! ### texts spelled letter by letter -/
def outside : D → Bool
  | .str s => !(cs s).all okc
  | _ => false
theorem strok_of {c : Nat} (h : c < 128) : PySem.PyData.canLay0 (.str ⟨#[c]⟩) = true := by
  unfold PySem.PyData.canLay0
  simp [PySem.PyData.strOk]
  omega
theorem out_py : ∀ l : List Nat, (∀ c ∈ l, c < 128) → ∃ ys : List PyData, toPys ((l.map fun c => D.str ⟨#[c]⟩).filter outside) = some ys ∧ PyData.canLayAll0 ys = true ∧ PyData.depthAll ys = 0 ∧ (ys.isEmpty = l.all okc)
  | [], _ => ⟨[], rfl, rfl, rfl, rfl⟩
  | c :: l, h => by
    obtain ⟨ys, e1, e2, e3, e4⟩ := out_py l fun x hx => h x (List.mem_cons_of_mem _ hx)
    have hc := h c List.mem_cons_self
    by_cases ho : okc c = true
    · refine ⟨ys, ?_, e2, e3, by rw [List.all_cons, ho, e4]; rfl⟩
      rw [List.map_cons, List.filter_cons]
      have : outside (.str ⟨#[c]⟩) = false := by simp [outside, cs, ho]
      rw [this]
      exact e1
    · have ho' : okc c = false := by simpa using ho
      refine ⟨.str ⟨#[c]⟩ :: ys, ?_, ?_, ?_, by rw [List.all_cons, ho']; rfl⟩
      · rw [List.map_cons, List.filter_cons]
        have : outside (.str ⟨#[c]⟩) = true := by simp [outside, cs, ho']
        rw [this, if_pos rfl]
        unfold toPys
        rw [e1]
        rfl
      · unfold PyData.canLayAll0
        rw [e2, strok_of hc]
        rfl
      · unfold PyData.depthAll
        rw [e3]
        rfl
theorem eqv_nil (ys : List PyData) : PyData.eqv (.list ys) (.list []) = ys.isEmpty := by
  cases ys with
  | nil => simp [PyData.eqv, PyData.eqvAll]
  | cons y ys => simp [PyData.eqv, PyData.eqvAll]
theorem spelled_str {z : Str} (h : z.length ≤ 10000 ∧ ∀ c ∈ cs z, c < 128) (M : Mem) : g__law_spelled [.str z] M = .ok (.bl (isW z)) M := by
  have zl : z.length ≤ lineD := line1k h.1
  have hlen : (Den.signs z).length = z.length := by simp [Den.signs, Str.length]
  by_cases hz : 1 ≤ z.length ∧ z.length ≤ 8
  · obtain ⟨h1, h8⟩ := id hz
    have hs : (Den.signs z).length ≤ lineD := by rw [hlen]; exact zl
    have c2 : ∀ M, lcD (gNm 1) (fB (eTwo (gInS fun b => !b) (eVar 1) (eStr "abcdefghijklmnopqrstuvwxyz"))) (eVar 1) [some (.str z), none] (Den.signs z) M = .ok ((Den.signs z).filter outside) M := fun M => by
      have := lcD_pure (g := gNm 1) (t := fB (eTwo (gInS fun b => !b) (eVar 1) (eStr "abcdefghijklmnopqrstuvwxyz"))) (f := eVar 1) (ρ := [some (.str z), none]) (M := M) outside (fun d => d) (xs := Den.signs z) (by
        intro d hd
        unfold Den.signs at hd
        obtain ⟨c, _, rfl⟩ := List.mem_map.mp hd
        refine ⟨_, rfl, ?_, fun _ => by simp⟩
        have hin : decide (c ∈ (Str.ofString "abcdefghijklmnopqrstuvwxyz").cps.toList) = okc c := by
          unfold okc
          rw [decide_eq_decide]
          exact alpha_in
        simp only [fB, eTwo, eVar, gInS, asB, Out.bind_ok, List.getElem?_cons_succ, List.getElem?_cons_zero, List.set_cons_succ, List.set_cons_zero, hin]
        simp [outside, cs])
      rwa [List.map_id'] at this
    obtain ⟨ys, e1, e2, e3, e4⟩ := out_py (cs z) h.2
    have sh : SeqAt.shaped (.list ys) = true := by
      unfold SeqAt.shaped
      unfold PyData.canLay0 PyData.depth
      rw [e2, e3]
      rfl
    have sn : SeqAt.shaped (.list []) = true := by decide +kernel
    have k0 : ¬ z.length = 0 := by omega
    have k8 : ¬ (8 : Int) < (z.length : Int) := by omega
    have e1' : toPys ((Den.signs z).filter outside) = some ys := e1
    have ws : wipeD [some (D.str z), none] [1] = [some (D.str z), none] := rfl
    have e : isW z = (cs z).all okc := by unfold isW; rw [decide_eq_true hz]; rfl
    rw [e]
    simp [g__law_spelled, f__law_spelled, tyS, isiB, zl, k0, k8, hs, ws, c2, toPy, toPys, e1', sh, sn, eqv_nil, e4, line1k]
  · have e : isW z = false := by unfold isW; rw [decide_eq_false hz]; rfl
    rw [e]
    by_cases h0 : z.length = 0
    · simp [g__law_spelled, f__law_spelled, tyS, isiB, zl, h0]
    · have h8 : (8 : Int) < z.length := by omega
      simp [g__law_spelled, f__law_spelled, tyS, isiB, zl, h0, h8]
theorem spelled_any {d : D} (h : Pl d) (M : Mem) : g__law_spelled [d] M = .ok (.bl (kW d)) M := by
  cases d with
  | str z => exact spelled_str h M
  | non => simp [g__law_spelled, f__law_spelled, kW, tyS, isiB]
  | bl b => simp [g__law_spelled, f__law_spelled, kW, tyS, isiB]
  | int i => simp [g__law_spelled, f__law_spelled, kW, tyS, isiB]
  | tup xs => simp [g__law_spelled, f__law_spelled, kW, tyS, isiB]
  | lst xs => simp [g__law_spelled, f__law_spelled, kW, tyS, isiB]
  | dct ks xs => simp [g__law_spelled, f__law_spelled, kW, tyS, isiB]
  | _ => exact h.elim
end K05
namespace K05
open PySem PySem.Spec PyProof.Rows L2 Den
theorem toVs_strs : ∀ ss : List Str, toVs (ss.map D.str) = some (ss.map V.str)
  | [] => rfl
  | s :: ss => by simp [toVs, toVs_strs ss]
theorem any_strs (z : Str) : ∀ ss : List Str, (inV (.str z) (ss.map V.str)) = ss.any fun s => sIs (.str z) s
  | [] => rfl
  | s :: ss => by
    have ih := any_strs z ss
    unfold inV at ih ⊢
    rw [List.map_cons, List.any_cons, List.any_cons, ih]
    congr 1
    by_cases h : z = s
    · subst h; simp [sIs, eqV]
    · have h' : ¬ s = z := fun e => h e.symm
      simp [sIs, eqV, h, h']
theorem any_oth {v : V} (h : ∀ s, eqV (.str s) v = false) : ∀ ss : List Str, (inV v (ss.map V.str)) = false
  | [] => rfl
  | s :: ss => by
    have ih := any_oth h ss
    unfold inV at ih ⊢
    rw [List.map_cons, List.any_cons, ih, h s]
    rfl
theorem all_dOk : ∀ ss : List Str, (ss.map D.str).all dOk = true
  | [] => rfl
  | s :: ss => by rw [List.map_cons, List.all_cons, all_dOk ss]; rfl
theorem none_sIs {d : D} (h : ∀ z, d ≠ .str z) : ∀ ss : List Str, (ss.any fun s => sIs d s) = false
  | [] => rfl
  | s :: ss => by
    rw [List.any_cons, none_sIs h ss]
    have : sIs d s = false := by unfold sIs; split <;> first | rfl | exact absurd rfl (h _)
    rw [this]; rfl
theorem inX_strs {d : D} (h : Pl d) (ss : List Str) (M : Mem) : gInX d (.tup (ss.map D.str)) M = .ok (.bl (ss.any fun s => sIs d s)) M := by
  have e := toVs_strs ss
  have a := all_dOk ss
  cases d with
  | str z => simp only [gInX, nflat, gInS, toV, e, any_strs, Bool.false_eq_true, if_false]
  | non => simp only [gInX, nflat, gInS, toV, e, any_oth (v := .non) (fun s => rfl), Bool.false_eq_true, if_false, none_sIs (d := .non) (fun z q => by cases q)]
  | bl b => simp only [gInX, nflat, gInS, toV, e, any_oth (v := .bl b) (fun s => rfl), Bool.false_eq_true, if_false, none_sIs (d := .bl b) (fun z q => by cases q)]
  | int i => simp only [gInX, nflat, gInS, toV, e, any_oth (v := .int i) (fun s => rfl), Bool.false_eq_true, if_false, none_sIs (d := .int i) (fun z q => by cases q)]
  | tup xs => simp only [gInX, nflat, a, if_true, none_sIs (d := .tup xs) (fun z q => by cases q)]
  | lst xs => simp only [gInX, nflat, a, if_true, none_sIs (d := .lst xs) (fun z q => by cases q)]
  | dct ks xs => simp only [gInX, nflat, a, if_true, none_sIs (d := .dct ks xs) (fun z q => by cases q)]
  | _ => exact h.elim
def inSend (d : D) : Bool := sIs d "send" || sIs d "take"
def inActs (d : D) : Bool := sIs d "output" || sIs d "send" || sIs d "take" || sIs d "work"
theorem in_send {d : D} (h : Pl d) (M : Mem) : gInX d (.tup [.str "send", .str "take"]) M = .ok (.bl (inSend d)) M := by
  have e := inX_strs h ["send", "take"] M
  simpa [inSend] using e
theorem in_acts {d : D} (h : Pl d) (M : Mem) : gInX d (.tup k_ACTS) M = .ok (.bl (inActs d)) M := by
  have e := inX_strs h ["output", "send", "take", "work"] M
  simpa [inActs, Bool.or_assoc] using e
def ckind (a k : D) : Bool := if inSend a = true then kW k else inActs a && isNon k
theorem kind_any {a k : D} (ha : Pl a) (hk : Pl k) (M : Mem) : g__can_have_kind [a, k] M = .ok (.bl (ckind a k)) M := by
  have e1 := fun M => in_send ha M
  have e2 := fun M => in_acts ha M
  have e3 := fun M => is_word_any hk M
  unfold ckind
  cases h : inSend a with
  | true => simp [g__can_have_kind, f__can_have_kind, e1, h, e3, -gInX, line1k]
  | false =>
    cases h2 : inActs a with
    | true => simp [g__can_have_kind, f__can_have_kind, e1, e2, h, h2, e3, -gInX, line1k]
    | false => simp [g__can_have_kind, f__can_have_kind, e1, e2, h, h2, e3, -gInX, line1k]
theorem toVs_keep : toVs [D.non, .str "note", .str "save"] = some [.non, .str "note", .str "save"] := rfl
theorem in_keep {d : D} (h : Pl d) (M : Mem) : gInX d (.tup k_KEEPINGS) M = .ok (.bl (isNon d || sIs d "note" || sIs d "save")) M := by
  cases d with
  | str z =>
    have e := any_strs z ["note", "save"]
    unfold inV at e
    simp only [List.map_cons, List.map_nil, List.any_cons, List.any_nil, Bool.or_false] at e
    have e0 : eqV .non (.str z) = false := rfl
    simp only [k_KEEPINGS, gInX, nflat, gInS, toV, toVs_keep, Bool.false_eq_true, if_false, inV, List.any_cons, List.any_nil, Bool.or_false, e, e0, Den.isNon, Bool.false_or]
  | non => rfl
  | bl b => rfl
  | int i => rfl
  | tup xs => rfl
  | lst xs => rfl
  | dct ks xs => rfl
  | _ => exact h.elim
theorem eqx_str {d : D} (h : Pl d) {s : Str} (hs : SeqAt.shaped (.str s) = true) (M : Mem) : gEqX d (.str s) M = .ok (.bl (sIs d s)) M := by
  have s0 : SeqAt.shaped .none = true := by decide +kernel
  have s1 : ∀ b, SeqAt.shaped (.bool b) = true := by decide +kernel
  have s2 : ∀ i, SeqAt.shaped (.int i) = true := fun i => by simp [SeqAt.shaped, PyData.canLay0, PyData.depth]
  cases d with
  | str z => simp [gEqX, gEqv, sIs]
  | non => simp [gEqX, gEqv, sIs, toPy, s0, hs, PyData.eqv]
  | bl b => simp [gEqX, gEqv, sIs, toPy, s1, hs, PyData.eqv]
  | int i => simp [gEqX, gEqv, sIs, toPy, s2, hs, PyData.eqv]
  | tup xs =>
    obtain ⟨ys, e, sh⟩ := h
    simp [gEqX, gEqv, sIs, toPy, e, sh, hs, PyData.eqv]
  | lst xs =>
    obtain ⟨ys, e, sh⟩ := h
    simp [gEqX, gEqv, sIs, toPy, e, sh, hs, PyData.eqv]
  | dct ks xs => rfl
  | _ => exact h.elim
theorem sh_note : SeqAt.shaped (.str (Str.ofString "note")) = true := by decide +kernel
theorem sh_take : SeqAt.shaped (.str (Str.ofString "take")) = true := by decide +kernel
def ckeep (a kp : D) : Bool := if sIs kp "note" = true then sIs a "take" else Den.isNon kp || sIs kp "save"
theorem keep_any {a kp : D} (ha : Pl a) (hk : Pl kp) (M : Mem) : g_can_have_keeping [a, kp] M = .ok (.bl (ckeep a kp)) M := by
  have e1 := fun M => eqx_str hk sh_note M
  have e2 := fun M => eqx_str ha sh_take M
  have e3 := fun M => in_keep hk M
  unfold ckeep
  cases h : sIs kp "note" with
  | true => simp [g_can_have_keeping, f_can_have_keeping, e1, e2, h, -gInX, -gEqX, line1k]
  | false => simp [g_can_have_keeping, f_can_have_keeping, e1, e2, e3, h, -gInX, -gEqX, line1k]
def mv (a k t p kp : D) : Bool := ckind a k && bel t 6 && bel p 10 && ckeep a kp
theorem is_move_five {a k t p kp : D} (ha : Pl a) (hk : Pl k) (ht : Pl t) (hp : Pl p) (hkp : Pl kp) (M : Mem) : g_is_move [.tup [a, k, t, p, kp]] M = .ok (.bl (mv a k t p kp)) M := by
  have e1 := fun M => kind_any ha hk M
  have e2 := fun M => is_below_any ht (n := 6) (by decide) M
  have e3 := fun M => is_price_any hp M
  have e4 := fun M => keep_any ha hkp M
  unfold mv
  cases h1 : ckind a k with
  | false => simp [g_is_move, f_is_move, tyS, isiB, e1, h1]
  | true =>
    cases h2 : bel t 6 with
    | false => simp [g_is_move, f_is_move, tyS, isiB, e1, h1, e2, h2]
    | true =>
      cases h3 : bel p 10 with
      | false => simp [g_is_move, f_is_move, tyS, isiB, e1, h1, e2, h2, e3, h3]
      | true => simp [g_is_move, f_is_move, tyS, isiB, e1, h1, e2, h2, e3, h3, e4]
/-- values that are no tuples of five -/
def Oth (v : D) : Prop := (∃ xs, v = .tup xs ∧ xs.length ≠ 5) ∨ (∃ t, tyD v = some t ∧ t ≠ "tuple")
theorem gIsi_ty {v : D} {t T : String} (h : tyD v = some t) (hT : T ∈ tyS) (M : Mem) : gIsi [v, .ty T] M = .ok (.bl (isiB t T)) M := by
  show (if T ∈ tyS then match tyD v with
    | some t => Out.ok (D.bl (isiB t T)) M
    | none => Out.no
    else Out.no) = _
  rw [if_pos hT, h]
theorem not_tup {v : D} {t : String} (h : tyD v = some t) (ht : t ≠ "tuple") (M : Mem) : gIsi [v, .ty "tuple"] M = .ok (.bl false) M := by
  rw [gIsi_ty h (by decide)]
  have : isiB t "tuple" = false := by
    have h1 : (t == "tuple") = false := by simpa using ht
    simp [isiB, h1]
  rw [this]
theorem is_move_oth {v : D} (h : Oth v) (M : Mem) : g_is_move [v] M = .ok (.bl false) M := by
  rcases h with ⟨xs, rfl, hx⟩ | ⟨t, h, ht⟩
  · have hx' : ¬ (xs.length : Int) = 5 := by omega
    simp [g_is_move, f_is_move, tyS, isiB, hx']
  · have e := fun M => not_tup h ht M
    simp [g_is_move, f_is_move, e, -gIsi]
theorem fine_oth {v : D} (h : Oth v) (n : Int) (M : Mem) : g__law_is_fine_move [v, .int n] M = .ok (.bl false) M := by
  rcases h with ⟨xs, rfl, hx⟩ | ⟨t, h, ht⟩
  · have hx' : ¬ (xs.length : Int) = 5 := by omega
    simp [g__law_is_fine_move, f__law_is_fine_move, tyS, isiB, hx']
  · have e := fun M => not_tup h ht M
    simp [g__law_is_fine_move, f__law_is_fine_move, e, -gIsi]
end K05
namespace K05
open PySem PySem.Spec PyProof.Rows L2 Den
theorem inS_list (f : Bool → Bool) (z : Str) (ss : List Str) (M : Mem) : gInS f (.str z) (.lst (ss.map D.str)) M = .ok (.bl (f (ss.any fun s => sIs (.str z) s))) M := by
  have e := toVs_strs ss
  simp only [gInS, itemsD, toV, e, any_strs]
theorem ls_acts (f : Bool → Bool) (z : Str) (M : Mem) : gInS f (.str z) (.lst [.str "output", .str "send", .str "take", .str "work"]) M = .ok (.bl (f (inActs (.str z)))) M := by
  have e := inS_list f z ["output", "send", "take", "work"] M
  simpa [inActs, Bool.or_assoc] using e
theorem ls_send (f : Bool → Bool) (z : Str) (M : Mem) : gInS f (.str z) (.lst [.str "send", .str "take"]) M = .ok (.bl (f (inSend (.str z)))) M := by
  have e := inS_list f z ["send", "take"] M
  simpa [inSend] using e
def fk (a kp : D) : Bool := Den.isNon kp || (sIs kp "save" || (sIs kp "note" && sIs a "take"))
def fm (a k t p kp : D) (n : Int) : Bool := inActs a && ((if inSend a = true then kW k else Den.isNon k) && (bel t n && (bel p 10 && fk a kp)))
theorem acts_oth {a : D} (h : ∀ z, a ≠ .str z) : inActs a = false := by
  have := none_sIs h ["output", "send", "take", "work"]
  simpa [inActs, Bool.or_assoc] using this
theorem str_or {a : D} (ha : Pl a) : (∃ z, a = .str z) ∨ ((∀ z, a ≠ .str z) ∧ ∃ t, tyD a = some t ∧ t ≠ "str") := by
  cases a with
  | str z => exact .inl ⟨z, rfl⟩
  | non => exact .inr ⟨fun z q => (nomatch q), _, rfl, by decide⟩
  | bl b => exact .inr ⟨fun z q => (nomatch q), _, rfl, by decide⟩
  | int i => exact .inr ⟨fun z q => (nomatch q), _, rfl, by decide⟩
  | tup xs => exact .inr ⟨fun z q => (nomatch q), _, rfl, by decide⟩
  | lst xs => exact .inr ⟨fun z q => (nomatch q), _, rfl, by decide⟩
  | dct ks xs => exact .inr ⟨fun z q => (nomatch q), _, rfl, by decide⟩
  | _ => exact ha.elim
theorem isi_str {v : D} {t : String} (h : tyD v = some t) (ht : t ≠ "str") (M : Mem) : gIsi [v, .ty "str"] M = .ok (.bl false) M := by
  rw [gIsi_ty h (by decide)]
  have : isiB t "str" = false := by
    have h1 : (t == "str") = false := by simpa using ht
    simp [isiB, h1]
  rw [this]
theorem isi_strT (z : Str) (M : Mem) : gIsi [.str z, .ty "str"] M = .ok (.bl true) M := rfl
theorem isi_tupT (xs : List D) (M : Mem) : gIsi [.tup xs, .ty "tuple"] M = .ok (.bl true) M := rfl
theorem eq_str (z s : Str) (M : Mem) : gEq (.str z) (.str s) M = .ok (.bl (sIs (.str z) s)) M := rfl
theorem is_non (f : Bool → Bool) (d : D) (M : Mem) : gIs f d .non M = .ok (.bl (f (Den.isNon d))) M := rfl
/-- the end of the law's rule -/
abbrev fEnd : FS := (sSeq (sIf (fB (eTwo (gIs fun b => b) (eVar 6) eNone)) (sRet (eBool true)) sNx) (sRet (eAnd (eApp gIsi (aCons (eVar 6) (aCons (eTy "str") aNil))) (eOr (eTwo gEq (eVar 6) (eStr "save")) (eAnd (eTwo gEq (eVar 6) (eStr "note")) (eTwo gEq (eVar 2) (eStr "take")))))))
theorem end_ok {z : Str} {kp : D} (hk : Pl kp) (x0 x1 x3 x4 x5 : Option D) (M : Mem) : fEnd [x0, x1, some (.str z), x3, x4, x5, some kp] M = .ok (.rt (.bl (fk (.str z) kp))) M := by
  rcases str_or hk with ⟨y, rfl⟩ | ⟨ho, t, ht, hn⟩
  · have e0 : Den.isNon (.str y) = false := rfl
    unfold fk
    cases h1 : sIs (.str y) "save" with
    | true => simp [fEnd, is_non, e0, isi_strT, eq_str, h1, -gIsi, -gEq_ap, -gIs, -Den.isNon]
    | false =>
      cases h2 : sIs (.str y) "note" with
      | true => simp [fEnd, is_non, e0, isi_strT, eq_str, h1, h2, -gIsi, -gEq_ap, -gIs, -Den.isNon]
      | false => simp [fEnd, is_non, e0, isi_strT, eq_str, h1, h2, -gIsi, -gEq_ap, -gIs, -Den.isNon]
  · have e := fun M => isi_str ht hn M
    have n1 := none_sIs ho ["save", "note"]
    simp only [List.any_cons, List.any_nil, Bool.or_false, Bool.or_eq_false_iff] at n1
    unfold fk
    rw [n1.1, n1.2]
    cases h : Den.isNon kp with
    | true => simp [fEnd, is_non, h, -gIsi, -gEq_ap, -gIs, -Den.isNon]
    | false => simp [fEnd, is_non, h, e, -gIsi, -gEq_ap, -gIs, -Den.isNon]
def fE : FS := fEnd
theorem fine_eq : f__law_is_fine_move = (sSeq (sIf (tOrF (tNotF (fTru (eApp gIsi (aCons (eVar 0) (aCons (eTy "tuple") aNil))))) (fB (eTwo gNe (eApp gLen (aCons (eVar 0) aNil)) (eInt 5)))) (sRet (eBool false)) sNx) (sSeq (sAsg (gTp [2, 3, 4, 5, 6]) (eVar 0)) (sSeq (sIf (tOrF (tNotF (fTru (eApp gIsi (aCons (eVar 2) (aCons (eTy "str") aNil))))) (fB (eTwo (gInS fun b => !b) (eVar 2) (eLst (aCons (eStr "output") (aCons (eStr "send") (aCons (eStr "take") (aCons (eStr "work") aNil)))))))) (sRet (eBool false)) sNx) (sSeq (sIf (tOrF (tAndF (fB (eTwo (gInS fun b => b) (eVar 2) (eLst (aCons (eStr "send") (aCons (eStr "take") aNil))))) (tNotF (fTru (eCall (g__law_spelled) [] 1 (aCons (eVar 3) aNil))))) (tAndF (fB (eTwo (gInS fun b => !b) (eVar 2) (eLst (aCons (eStr "send") (aCons (eStr "take") aNil))))) (fB (eTwo (gIs fun b => !b) (eVar 3) eNone)))) (sRet (eBool false)) sNx) (sSeq (sIf (tOrF (tNotF (fTru (eCall (g__law_is_below) [] 2 (aCons (eVar 4) (aCons (eTwo gSub (eVar 1) (eInt 1)) aNil))))) (tNotF (fTru (eCall (g__law_is_below) [] 2 (aCons (eVar 5) (aCons (eInt 9) aNil)))))) (sRet (eBool false)) sNx) fE))))) := rfl
theorem fine_five {a k t p kp : D} (ha : Pl a) (hk : Pl k) (ht : Pl t) (hp : Pl p) (hkp : Pl kp) (n : Int) (M : Mem) : g__law_is_fine_move [.tup [a, k, t, p, kp], .int n] M = .ok (.bl (fm a k t p kp n)) M := by
  have e3 := fun M => spelled_any hk M
  have e4 : ∀ M, g__law_is_below [t, .int (n - 1)] M = .ok (.bl (bel t n)) M := fun M => by
    have := law_below ht (n := n - 1) M
    rwa [show n - 1 + 1 = n by omega] at this
  have e5 : ∀ M, g__law_is_below [p, .int 9] M = .ok (.bl (bel p 10)) M := fun M => law_below hp (n := 9) M
  rcases str_or ha with ⟨z, rfl⟩ | ⟨ho, ty, hty, hn⟩
  · have e6 : ∀ x0 x1 x3 x4 x5 M, fE [x0, x1, some (.str z), x3, x4, x5, some kp] M = .ok (.rt (.bl (fk (.str z) kp))) M := fun x0 x1 x3 x4 x5 M => end_ok (z := z) hkp x0 x1 x3 x4 x5 M
    unfold fm
    cases h1 : inActs (.str z) with
    | false => simp [g__law_is_fine_move, fine_eq, isi_tupT, isi_strT, ls_acts, h1, line1k, -gIsi, -gInS]
    | true =>
      cases h2 : inSend (.str z) with
      | true =>
        cases h3 : kW k with
        | false => simp [g__law_is_fine_move, fine_eq, isi_tupT, isi_strT, ls_acts, ls_send, h1, h2, e3, h3, line1k, -gIsi, -gInS]
        | true =>
          cases h4 : bel t n with
          | false => simp [g__law_is_fine_move, fine_eq, isi_tupT, isi_strT, ls_acts, ls_send, h1, h2, e3, h3, e4, h4, line1k, -gIsi, -gInS]
          | true =>
            cases h5 : bel p 10 with
            | false => simp [g__law_is_fine_move, fine_eq, isi_tupT, isi_strT, ls_acts, ls_send, h1, h2, e3, h3, e4, h4, e5, h5, line1k, -gIsi, -gInS]
            | true => simp [g__law_is_fine_move, fine_eq, isi_tupT, isi_strT, ls_acts, ls_send, h1, h2, e3, h3, e4, h4, e5, h5, e6, line1k, -gIsi, -gInS, -gIs, -Den.isNon]
      | false =>
        cases h3 : Den.isNon k with
        | false => simp [g__law_is_fine_move, fine_eq, isi_tupT, isi_strT, ls_acts, ls_send, is_non, h1, h2, e3, h3, line1k, -gIsi, -gInS, -gIs, -Den.isNon]
        | true =>
          cases h4 : bel t n with
          | false => simp [g__law_is_fine_move, fine_eq, isi_tupT, isi_strT, ls_acts, ls_send, is_non, h1, h2, e3, h3, e4, h4, line1k, -gIsi, -gInS, -gIs, -Den.isNon]
          | true =>
            cases h5 : bel p 10 with
            | false => simp [g__law_is_fine_move, fine_eq, isi_tupT, isi_strT, ls_acts, ls_send, is_non, h1, h2, e3, h3, e4, h4, e5, h5, line1k, -gIsi, -gInS, -gIs, -Den.isNon]
            | true => simp [g__law_is_fine_move, fine_eq, isi_tupT, isi_strT, ls_acts, ls_send, is_non, h1, h2, e3, h3, e4, h4, e5, h5, e6, line1k, -gIsi, -gInS, -gIs, -Den.isNon]
  · have e := fun M => isi_str hty hn M
    unfold fm
    rw [acts_oth ho]
    simp [g__law_is_fine_move, fine_eq, isi_tupT, e, line1k, -gIsi, -gInS]
end K05
namespace K05
open PySem PySem.Spec PyProof.Rows L2 Den
theorem sIs_eq {d : D} {s : Str} (h : sIs d s = true) : d = .str s := by
  unfold sIs at h
  split at h
  · rw [of_decide_eq_true h]
  · cases h
theorem send_acts {a : D} (h : inSend a = true) : inActs a = true := by
  unfold inSend at h
  unfold inActs
  rcases Bool.or_eq_true_iff.mp h with h | h <;> simp [h]
theorem keep_eq (a kp : D) : ckeep a kp = fk a kp := by
  unfold ckeep fk
  cases h : sIs kp "note" with
  | true =>
    have e := sIs_eq h
    subst e
    have e1 : sIs (.str (Str.ofString "note")) "save" = false := by decide +kernel
    simp [e1]
  | false => simp
theorem mv_eq (a k t p kp : D) : mv a k t p kp = fm a k t p kp 6 := by
  unfold mv fm ckind
  rw [keep_eq]
  cases h : inSend a with
  | true => rw [send_acts h]; simp [Bool.and_assoc]
  | false => simp [Bool.and_assoc]
theorem bel_one {t : D} (h : bel t 1 = true) : t = .int 0 := by
  unfold bel at h
  split at h
  · rename_i i
    rw [Bool.and_eq_true, decide_eq_true_eq, decide_eq_true_eq] at h
    have : i = 0 := by omega
    rw [this]
  · cases h
theorem bel_int {t : D} {n : Int} (h : bel t n = true) : ∃ i, t = .int i ∧ 0 ≤ i ∧ i < n := by
  unfold bel at h
  split at h
  · rename_i i
    rw [Bool.and_eq_true, decide_eq_true_eq, decide_eq_true_eq] at h
    exact ⟨i, rfl, h⟩
  · cases h
theorem fm_one (a k t p kp : D) : (fm a k t p kp 6 && bel t 1) = fm a k t p kp 1 := by
  unfold fm
  cases h : bel t 1 with
  | true =>
    have := bel_one h
    subst this
    have e : bel (.int 0) 6 = true := rfl
    rw [e]; simp
  | false => simp
/-! ### one state of one move -/
theorem is_state_ok {a k t p kp : D} (ha : Pl a) (hk : Pl k) (ht : Pl t) (hp : Pl p) (hkp : Pl kp) (M : Mem) : g__is_state [.tup [.tup [a, k, t, p, kp]], .int 1] M = .ok (.bl (fm a k t p kp 1)) M := by
  have e := fun M => is_move_five ha hk ht hp hkp M
  rw [← fm_one, ← mv_eq]
  cases h : mv a k t p kp with
  | false => simp [g__is_state, f__is_state, isi_tupT, e, h, lcD, wipeD, line1k, gAll, bls?, -gIsi]
  | true =>
    have h6 : bel t 6 = true := by
      unfold mv at h
      simp only [Bool.and_eq_true] at h
      exact h.1.1.2
    obtain ⟨i, rfl, i0, i6⟩ := bel_int h6
    have e1 : bel (.int i) 1 = decide (i < 1) := by
      show (decide (0 ≤ i) && decide (i < 1)) = _
      simp [i0]
    rw [e1]
    simp [g__is_state, f__is_state, isi_tupT, e, h, lcD, wipeD, line1k, gAll, bls?, lt_int, atI, ixN, -gIsi, -gLt'_ap]
theorem is_state_oth {v : D} (h : Oth v) (M : Mem) : g__is_state [.tup [v], .int 1] M = .ok (.bl false) M := by
  have e := fun M => is_move_oth h M
  simp [g__is_state, f__is_state, isi_tupT, e, lcD, wipeD, line1k, gAll, bls?, -gIsi]
theorem are_states_of {v : D} {b : Bool} (h : ∀ M, g__is_state [.tup [v], .int 1] M = .ok (.bl b) M) (M : Mem) : g__are_states [.tup [.tup [v]]] M = .ok (.bl b) M := by
  simp [g__are_states, f__are_states, h, lcD, wipeD, line1k, gAll, bls?, le_int, -gLe'_ap]
theorem taken_false {cM cX : Addr} {v : D} (h : ∀ M, g__is_state [.tup [v], .int 1] M = .ok (.bl false) M) (M : Mem) : g__law_is_taken cM cX [v] M = .ok (.bl false) M := by
  have e := fun M => are_states_of h M
  have e2 : ∀ M, gOf cM cX "_states" g__are_states [.fn cM, .tup [.tup [v]]] M = .exc ⟨.ref cX, none⟩ M := fun M => by
    unfold gOf
    simp [isiB, mkF, e, line1k]
  simp [g__law_is_taken, f__law_is_taken, e2, line1k]
theorem taken_true {cM cX : Addr} {v : D} {r : Str} (h : ∀ M, g__is_state [.tup [v], .int 1] M = .ok (.bl true) M) (hr : ∀ M, gRepr [.tup [.tup [v]]] M = .ok (.str r) M) (M : Mem) : g__law_is_taken cM cX [v] M = .ok (.bl true) M := by
  have e := fun M => are_states_of h M
  have e2 : ∀ M, gOf cM cX "_states" g__are_states [.fn cM, .tup [.tup [v]]] M = .ok (.ins cM ["_states"] [.tup [.tup [v]]]) M := fun M => by
    unfold gOf
    simp [isiB, mkF, e, line1k]
  simp [g__law_is_taken, f__law_is_taken, e2, hr, line1k, -gRepr]
end K05
namespace K05
open PySem PySem.Spec PyProof.Rows L2 Den
/-! ### what an accepted move is told as -/
def Sh (d : D) : Prop := ∃ y, toPy d = some y ∧ y.showable = true ∧ y.hasDict = false ∧ y.depth = 0 ∧ y.shown.length ≤ 100
theorem sh_str {z : Str} (h : z.length ≤ 8) (hc : ∀ c ∈ cs z, c < 128) : Sh (.str z) := by
  refine ⟨.str z, rfl, rfl, by first | rfl | simp [PyData.hasDict], rfl, ?_⟩
  rw [PyData.shown_str]
  have := StrLaws.reprText_len z fun c q => by
    have := hc c q
    have : (16 : Nat) ^ 8 = 4294967296 := by decide
    omega
  omega
theorem sh_non : Sh .non := ⟨.none, rfl, rfl, by first | rfl | simp [PyData.hasDict], rfl, by decide +kernel⟩
theorem sh_int {i : Int} (h0 : 0 ≤ i) (h1 : i < 10) : Sh (.int i) := by
  have : i = 0 ∨ i = 1 ∨ i = 2 ∨ i = 3 ∨ i = 4 ∨ i = 5 ∨ i = 6 ∨ i = 7 ∨ i = 8 ∨ i = 9 := by omega
  rcases this with rfl | rfl | rfl | rfl | rfl | rfl | rfl | rfl | rfl | rfl <;>
    exact ⟨.int _, rfl, by decide +kernel, by first | rfl | simp [PyData.hasDict], rfl, by decide +kernel⟩
theorem tupText5 (a b c d e : Str) : (tupleText [a, b, c, d, e]).length = a.length + b.length + c.length + d.length + e.length + 10 := by
  unfold tupleText
  have e1 : Str.join (Str.ofString ", ") [a, b, c, d, e] = a ++ Str.ofString ", " ++ (b ++ Str.ofString ", " ++ (c ++ Str.ofString ", " ++ (d ++ Str.ofString ", " ++ e))) := rfl
  have l1 : (Str.ofString "(").length = 1 := by decide +kernel
  have l2 : (Str.ofString ", ").length = 2 := by decide +kernel
  have l3 : (Str.ofString ")").length = 1 := by decide +kernel
  rw [e1]
  simp only [app_len, l1, l2, List.length_cons, List.length_nil, show ((0 + 1 + 1 + 1 + 1 + 1 == 1) = true) = False from by simp, if_false, l3]
  omega
theorem tupText1 (a : Str) : (tupleText [a]).length = a.length + 3 := by
  unfold tupleText
  have e1 : Str.join (Str.ofString ", ") [a] = a := rfl
  have l1 : (Str.ofString "(").length = 1 := by decide +kernel
  have l3 : (Str.ofString ",)").length = 2 := by decide +kernel
  rw [e1]
  simp only [app_len, l1, List.length_cons, List.length_nil, show ((0 + 1 == 1) = true) = True from by simp, if_true, l3]
  omega
theorem repr_move {a k t p kp : D} (ha : Sh a) (hk : Sh k) (ht : Sh t) (hp : Sh p) (hkp : Sh kp) : ∃ r, ∀ M, gRepr [.tup [.tup [.tup [a, k, t, p, kp]]]] M = .ok (.str r) M := by
  obtain ⟨y1, e1, s1, d1, p1, l1⟩ := ha
  obtain ⟨y2, e2, s2, d2, p2, l2⟩ := hk
  obtain ⟨y3, e3, s3, d3, p3, l3⟩ := ht
  obtain ⟨y4, e4, s4, d4, p4, l4⟩ := hp
  obtain ⟨y5, e5, s5, d5, p5, l5⟩ := hkp
  refine ⟨PyData.shown (.tuple [.tuple [.tuple [y1, y2, y3, y4, y5]]]), fun M => ?_⟩
  have et : toPy (.tup [.tup [.tup [a, k, t, p, kp]]]) = some (.tuple [.tuple [.tuple [y1, y2, y3, y4, y5]]]) := by
    simp [toPy, toPys, e1, e2, e3, e4, e5]
  have eo : reprOk (.tuple [.tuple [.tuple [y1, y2, y3, y4, y5]]]) = true := by
    have q1 : PyData.showable (.tuple [.tuple [.tuple [y1, y2, y3, y4, y5]]]) = true := by
      simp [PyData.showable, PyData.showableAll, s1, s2, s3, s4, s5]
    have q2 : PyData.hasDict (.tuple [.tuple [.tuple [y1, y2, y3, y4, y5]]]) = false := by
      simp [PyData.hasDict, PyData.hasDictAll, d1, d2, d3, d4, d5]
    have q3 : PyData.depth (.tuple [.tuple [.tuple [y1, y2, y3, y4, y5]]]) ≤ 60 := by
      simp [PyData.depth, PyData.depthAll, p1, p2, p3, p4, p5]
    have q4 : (PyData.shown (.tuple [.tuple [.tuple [y1, y2, y3, y4, y5]]])).length ≤ lineD := by
      have e : PyData.shown (.tuple [.tuple [.tuple [y1, y2, y3, y4, y5]]]) = tupleText [tupleText [tupleText [y1.shown, y2.shown, y3.shown, y4.shown, y5.shown]]] := by
        simp [PyData.shown, PyData.shownAll]
      rw [e, tupText1, tupText1, tupText5]
      exact line1k (by omega)
    unfold reprOk
    rw [q1, q2, decide_eq_true q3, decide_eq_true q4]
    rfl
  show (match toPy (.tup [.tup [.tup [a, k, t, p, kp]]]) with
    | some y => if reprOk y = true then Out.ok (D.str y.shown) M else .no
    | none => .no) = _
  rw [et]
  exact if_pos eo
end K05
namespace K05
open PySem PySem.Spec PyProof.Rows L2 Den
theorem acts_str {a : D} (h : inActs a = true) : Sh a := by
  unfold inActs at h
  simp only [Bool.or_eq_true] at h
  rcases h with ((h | h) | h) | h <;> (rw [sIs_eq h]; exact sh_str (by decide +kernel) (by decide +kernel))
theorem sh_of_fm {a k t p kp : D} {n : Int} (hn : n ≤ 6) (h : fm a k t p kp n = true) : Sh a ∧ Sh k ∧ Sh t ∧ Sh p ∧ Sh kp := by
  unfold fm at h
  simp only [Bool.and_eq_true] at h
  obtain ⟨h1, h2, h3, h4, h5⟩ := h
  refine ⟨acts_str h1, ?_, ?_, ?_, ?_⟩
  · split at h2
    · unfold kW at h2
      split at h2
      · rename_i z
        unfold isW at h2
        rw [Bool.and_eq_true, decide_eq_true_eq] at h2
        refine sh_str h2.1.2 fun c hc => ?_
        have := List.all_eq_true.mp h2.2 c hc
        unfold okc at this
        have := of_decide_eq_true this
        omega
      · cases h2
    · cases k <;> first | exact sh_non | (cases h2)
  · obtain ⟨i, rfl, h0, h1⟩ := bel_int h3
    exact sh_int h0 (by omega)
  · obtain ⟨i, rfl, h0, h1⟩ := bel_int h4
    exact sh_int h0 h1
  · unfold fk at h5
    simp only [Bool.or_eq_true, Bool.and_eq_true] at h5
    rcases h5 with h5 | h5 | h5
    · cases kp <;> first | exact sh_non | (cases h5)
    · rw [sIs_eq h5]; exact sh_str (by decide +kernel) (by decide +kernel)
    · rw [sIs_eq h5.1]; exact sh_str (by decide +kernel) (by decide +kernel)
/-- the values that are judged -/
def PV (v : D) : Prop := Oth v ∨ ∃ a k t p kp, v = .tup [a, k, t, p, kp] ∧ Pl a ∧ Pl k ∧ Pl t ∧ Pl p ∧ Pl kp
theorem ne_same (s : Str) (M : Mem) : gNe (.str s) (.str s) M = .ok (.bl false) M := by
  show Out.ok (D.bl (!decide (s = s))) M = _
  simp
theorem eq_bl (a b : Bool) (M : Mem) : gEq (.bl a) (.bl b) M = .ok (.bl (decide (a = b))) M := rfl
theorem value_right {cM cX : Addr} {v : D} (h : PV v) (M : Mem) : g__law_value_right cM cX [v] M = .ok (.bl true) M := by
  rcases h with h | ⟨a, k, t, p, kp, rfl, ha, hk, ht, hp, hkp⟩
  · have e1 := fun M => is_move_oth h M
    have e2 := fun n M => fine_oth h n M
    have e3 := fun M => taken_false (cM := cM) (cX := cX) (fun M => is_state_oth h M) M
    simp [g__law_value_right, f__law_value_right, e1, e2, e3, repr_bl, ne_same, eq_bl, -gRepr, -gNe_ap, -gEq_ap]
  · have e1 := fun M => is_move_five ha hk ht hp hkp M
    have e2 := fun n M => fine_five ha hk ht hp hkp n M
    have e3 : ∀ M, g__law_is_taken cM cX [.tup [a, k, t, p, kp]] M = .ok (.bl (fm a k t p kp 1)) M := by
      cases hf : fm a k t p kp 1 with
      | false => exact fun M => taken_false (fun M => by rw [is_state_ok ha hk ht hp hkp, hf]) M
      | true =>
        obtain ⟨s1, s2, s3, s4, s5⟩ := sh_of_fm (by decide) hf
        obtain ⟨r, hr⟩ := repr_move s1 s2 s3 s4 s5
        exact fun M => taken_true (fun M => by rw [is_state_ok ha hk ht hp hkp, hf]) hr M
    simp [g__law_value_right, f__law_value_right, e1, e2, e3, mv_eq, repr_bl, ne_same, eq_bl, -gRepr, -gNe_ap, -gEq_ap]
end K05
namespace K05
open PySem PySem.Spec PyProof.Rows L2 Den
theorem strok_z {z : Str} (h : ∀ c ∈ cs z, c < 128) : PyData.strOk z = true := by
  unfold PyData.strOk
  rw [← Array.all_toList, List.all_eq_true]
  intro c hc
  have := h c hc
  exact decide_eq_true (by omega)
def Asc (z : Str) : Prop := z.length ≤ 10000 ∧ ∀ c ∈ cs z, c < 128
theorem asc_low {n : Nat} {z : Str} (h : Low n z) (hn : n ≤ 10000) : Asc z := ⟨by rw [cs_len]; exact Nat.le_trans h.1 hn, fun c hc => by have := h.2 c hc; omega⟩
theorem pl_str {z : Str} (h : Asc z) : Pl (.str z) := h
theorem pl_tup1 {z : Str} (h : Asc z) : Pl (.tup [.str z]) := ⟨[.str z], rfl, by
  unfold SeqAt.shaped
  simp [PyData.canLay0, PyData.canLayAll0, PyData.depth, PyData.depthAll, strok_z h.2]⟩
theorem pl_lst1 {z : Str} (h : Asc z) : Pl (.lst [.str z]) := ⟨[.str z], rfl, by
  unfold SeqAt.shaped
  simp [PyData.canLay0, PyData.canLayAll0, PyData.depth, PyData.depthAll, strok_z h.2]⟩
theorem pl_tupi (i : Int) : Pl (.tup [.int i]) := ⟨[.int i], rfl, by
  unfold SeqAt.shaped
  simp [PyData.canLay0, PyData.canLayAll0, PyData.depth, PyData.depthAll]⟩
theorem pl_lsti (i : Int) : Pl (.lst [.int i]) := ⟨[.int i], rfl, by
  unfold SeqAt.shaped
  simp [PyData.canLay0, PyData.canLayAll0, PyData.depth, PyData.depthAll]⟩
instance (z : Str) : Decidable (Asc z) := by unfold Asc; infer_instance
def x8 : Str := Txt.mul (Str.ofString "x") 8
theorem x8_asc : Asc x8 ∧ x8.length ≤ 10 := by decide +kernel
theorem x8_ok (M : Mem) : gMulS (.str (Str.ofString "x")) (.int 8) M = .ok (.str x8) M := by
  show (if mulS (Str.ofString "x") 8 = true then Out.ok (D.str x8) M else Out.no) = _
  exact if_pos (by decide +kernel)
theorem asc_app {y z : Str} (hy : Asc y) (hz : Asc z) (hl : y.length + z.length ≤ 10000) : Asc (y ++ z) := ⟨by rw [app_len]; exact hl, fun c hc => by
  rw [cs_app] at hc
  rcases List.mem_append.mp hc with q | q
  · exact hy.2 c q
  · exact hz.2 c q⟩
theorem ten59 : ∃ p : Int, ∀ M, gPow (.int 10) (.int 59) M = .ok (.int p) M := ⟨10 ^ (59 : Int).toNat, fun M => pow_ok (by decide +kernel)⟩
def NearOk (xs : List D) : Prop := (∀ d ∈ xs, Pl d) ∧ 0 < xs.length ∧ xs.length ≤ 100
theorem near_ok {y z : Str} (hy : Low 8 y) (hz : Low 8 z) (n : Nat) : ∃ A B T C G : List D, (∀ M, g__law_near_parts [.loc n, .lst [.str y, .str z]] M = .ok (.lst [.lst A, .lst B, .lst T, .lst C, .lst G]) M) ∧
    NearOk A ∧ NearOk B ∧ NearOk T ∧ NearOk C ∧ NearOk G := by
  obtain ⟨p, _, hp⟩ := ten60'
  obtain ⟨q, hq⟩ := ten59
  have ay := asc_low hy (by decide)
  have az := asc_low hz (by decide)
  have ly : y.length ≤ 8 := by rw [cs_len]; exact hy.1
  have n1 : y.length + y.length ≤ lineD := line1k (by omega)
  have n2 : (y ++ y).length + x8.length ≤ lineD := line1k (by rw [app_len]; have := x8_asc.2; omega)
  have ayy : Asc (y ++ y) := asc_app ay ay (by omega)
  have abig : Asc (y ++ y ++ x8) := asc_app ayy x8_asc.1 (by rw [app_len]; have := x8_asc.2; omega)
  refine ⟨[.str "output", .str "send", .str "take", .str "work", .str "Send", .str "save", .str "", .str "take\n", .non, .bl true, .int 0, .tup [.str "work"]],
    [.non, .str y, .str z, .str "", .str "A", .str (y ++ y ++ x8), .str "a b", .int 0, .bl true, .tup [.str y], .lst [.str y]],
    [.int 0, .int 1, .int 5, .int 6, .int (0 - 1), .bl true, .bl false, .non, .str "0", .int p, .tup [.int 0]],
    [.int 0, .int 1, .int 9, .int 10, .int (0 - 1), .bl true, .bl false, .non, .str "9", .int q, .lst [.int 0]],
    [.non, .str "note", .str "save", .str "Note", .str "keep", .str "", .bl true, .bl false, .int 0, .tup [.str "save"], .lst [.str "note"], .dct [] []], fun M => ?_, ?_, ?_, ?_, ?_, ?_⟩
  · simp [g__law_near_parts, f__law_near_parts, atI, ixN, x8_ok, n1, n2, hp, hq, line1k, -gMulS]
  · refine ⟨fun d hd => ?_, by simp, by simp⟩
    simp only [List.mem_cons, List.not_mem_nil, or_false] at hd
    rcases hd with rfl | rfl | rfl | rfl | rfl | rfl | rfl | rfl | rfl | rfl | rfl | rfl <;> first | trivial | exact pl_str (by decide +kernel) | exact pl_tup1 (by decide +kernel)
  · refine ⟨fun d hd => ?_, by simp, by simp⟩
    simp only [List.mem_cons, List.not_mem_nil, or_false] at hd
    rcases hd with rfl | rfl | rfl | rfl | rfl | rfl | rfl | rfl | rfl | rfl | rfl
    · trivial
    · exact pl_str ay
    · exact pl_str az
    · exact pl_str (by decide +kernel)
    · exact pl_str (by decide +kernel)
    · exact pl_str abig
    · exact pl_str (by decide +kernel)
    · trivial
    · trivial
    · exact pl_tup1 ay
    · exact pl_lst1 ay
  · refine ⟨fun d hd => ?_, by simp, by simp⟩
    simp only [List.mem_cons, List.not_mem_nil, or_false] at hd
    rcases hd with rfl | rfl | rfl | rfl | rfl | rfl | rfl | rfl | rfl | rfl | rfl <;> first | trivial | exact pl_str (by decide +kernel) | exact pl_tupi _
  · refine ⟨fun d hd => ?_, by simp, by simp⟩
    simp only [List.mem_cons, List.not_mem_nil, or_false] at hd
    rcases hd with rfl | rfl | rfl | rfl | rfl | rfl | rfl | rfl | rfl | rfl | rfl <;> first | trivial | exact pl_str (by decide +kernel) | exact pl_lsti _
  · refine ⟨fun d hd => ?_, by simp, by simp⟩
    simp only [List.mem_cons, List.not_mem_nil, or_false] at hd
    rcases hd with rfl | rfl | rfl | rfl | rfl | rfl | rfl | rfl | rfl | rfl | rfl | rfl <;> first | trivial | exact pl_str (by decide +kernel) | exact pl_tup1 (by decide +kernel) | exact pl_lst1 (by decide +kernel)
/-! ### five numbers in a drawn order -/
def Five (d : D) : Prop := ∃ j : Int, d = .int j ∧ 0 ≤ j ∧ j < 5
theorem five_all : ∀ d ∈ [D.int 0, .int 1, .int 2, .int 3, .int 4], Five d := by
  intro d hd
  simp only [List.mem_cons, List.not_mem_nil, or_false] at hd
  rcases hd with rfl | rfl | rfl | rfl | rfl <;> exact ⟨_, rfl, by decide, by decide⟩
theorem shuffled5_ok {M : Mem} {n : Nat} (h : Stk M n) : ∃ (ys : List D) (M' : Mem), g__law_shuffled [.loc n, .lst [.int 0, .int 1, .int 2, .int 3, .int 4]] M = .ok (.lst ys) M' ∧ (∀ y ∈ ys, Five y) ∧ ys.length = 5 ∧ Stk M' n ∧ M'.length = M.length + 1 ∧ ∀ m, m ≠ n → m < M.length → M'[m]? = M[m]? := by
  have hn := h.lt
  have ne : M.length ≠ n := by omega
  have s0 : Stk (M ++ [some [D.int 0, .int 1, .int 2, .int 3, .int 4]]) n := by
    obtain ⟨a, b, c, e⟩ := h
    exact ⟨a, b, c, by rw [List.getElem?_append_left hn]; exact e⟩
  have hrg : (rangeD 0 5).length = 5 := rfl
  obtain ⟨ys, M2, e2, p2, l2, s2, q2, k2, o2⟩ := lcD_all (g := gNm 3) (f := ePop (eVar 2) (eCall (g__law_draw) [] 2 (aCons (eVar 0) (aCons (eApp gLen (aCons (eVar 2) aNil)) aNil)))) (ρ := [some (.loc n), some (.lst [.int 0, .int 1, .int 2, .int 3, .int 4]), some (.loc M.length), none])
    (fun i M' => Stk M' n ∧ (∃ ls, M'[M.length]? = some (some ls) ∧ ls.length = 5 - i ∧ ∀ d ∈ ls, Five d) ∧ M'.length = M.length + 1 ∧ ∀ m, m ≠ n → m < M.length → M'[m]? = M[m]?) Five (xs := rangeD 0 5) (M := M ++ [some [D.int 0, .int 1, .int 2, .int 3, .int 4]]) 0 (by
    rintro d hd i M1 hi ⟨hs, ⟨ls, hM, hl, ha⟩, hk, ho⟩
    rw [hrg] at hi
    obtain ⟨r, M3, e3, r0, r1, s3, k3⟩ := draw_ok hs (t := (ls.length : Int)) (by omega) (log26 (by omega))
    have hM3 : M3[M.length]? = some (some ls) := by rw [k3.2 _ ne]; exact hM
    have hr : r.toNat < ls.length := by omega
    have hx : ixN ls.length r = some r.toNat := by unfold ixN; rw [if_pos r0, if_pos r1]
    have hg : ls[r.toNat]? = some (ls[r.toNat]'hr) := by simp [hr]
    have hlt3 : M.length < M3.length := (List.getElem?_eq_some_iff.mp hM3).1
    refine ⟨_, ls[r.toNat]'hr, M3.set M.length (some (ls.eraseIdx r.toNat)), rfl, ?_, ha _ (List.getElem_mem hr), ?_, ⟨ls.eraseIdx r.toNat, by rw [List.getElem?_set_self hlt3], by rw [List.length_eraseIdx_of_lt hr]; omega, fun d hd => ha d (List.mem_of_mem_eraseIdx hd)⟩, by rw [List.length_set, k3.1]; exact hk, fun m hm hlt => ?_⟩
    · have b0 : -1000000 ≤ r := by omega
      have b1 : r ≤ 1000000 := by omega
      simp [hM, e3, hM3, b0, b1, hx, hg]
    · obtain ⟨a, b, c, e⟩ := s3
      exact ⟨a, b, c, by rw [List.getElem?_set_ne ne]; exact e⟩
    · rw [List.getElem?_set_ne (by omega), k3.2 m hm]
      exact ho m hm hlt) ⟨s0, ⟨_, grow_at _, rfl, five_all⟩, by simp, fun m hm hlt => by rw [List.getElem?_append_left hlt]⟩
  refine ⟨ys, M2, ?_, p2, by rw [l2, hrg], s2, k2, o2⟩
  have ws : wipeD [some (D.loc n), some (.lst [.int 0, .int 1, .int 2, .int 3, .int 4]), some (.loc M.length), none] [3] = [some (D.loc n), some (.lst [.int 0, .int 1, .int 2, .int 3, .int 4]), some (.loc M.length), none] := rfl
  simp [g__law_shuffled, f__law_shuffled, hrg, line1k, ws, e2]
end K05
namespace K05
open PySem PySem.Spec PyProof.Rows L2 Den
abbrev cA : FS := (sSet 4 (eIf (fB (eTwo (gInS fun b => b) (eVar 3) (eLst (aCons (eStr "send") (aCons (eStr "take") aNil))))) (eTwo gIx (eVar 1) (eCall (g__law_draw) [] 2 (aCons (eVar 0) (aCons (eInt 2) aNil)))) eNone))
abbrev cB : FS := (sSet 5 (eCall (g__law_pick) [] 2 (aCons (eVar 0) (aCons (eIf (fB (eTwo gEq (eVar 3) (eStr "take"))) (eLst (aCons eNone (aCons (eStr "save") (aCons (eStr "note") aNil)))) (eLst (aCons eNone (aCons (eStr "save") aNil)))) aNil))))
abbrev cC : FS := (sSet 6 (eLst (aCons (eVar 3) (aCons (eVar 4) (aCons (eCall (g__law_draw) [] 2 (aCons (eVar 0) (aCons (eInt 6) aNil))) (aCons (eCall (g__law_draw) [] 2 (aCons (eVar 0) (aCons (eInt 10) aNil))) (aCons (eVar 5) aNil)))))))
abbrev cD : FS := (sSet 7 (eLoc (aCons (eApp gTuple (aCons (eVar 6) aNil)) (aCons (eApp gTuple (aCons (eCut (eVar 6) oNo (oSo (eInt 4))) aNil)) (aCons (eTwo gAddT (eApp gTuple (aCons (eVar 6) aNil)) (eTup (aCons eNone aNil))) (aCons (eApp gList (aCons (eVar 6) aNil)) (aCons eNone (aCons (eVar 3) (aCons (eTup aNil) (aCons (eTup (aCons (eApp gTuple (aCons (eVar 6) aNil)) aNil)) aNil))))))))))
abbrev cPb : FS := (sSet 7 (eTwo gAddM (eVar 7) (eLc (iVal (eTwo gIx (eVar 2) (eVar 8))) (gNm 14) [14] tTrue (eApp gTuple (aCons (eTwo gAdd (eTwo gAdd (eCut (eVar 6) oNo (oSo (eVar 8))) (eLst (aCons (eVar 14) aNil))) (eCut (eVar 6) (oSo (eTwo gAdd (eVar 8) (eInt 1))) oNo)) aNil)))))
abbrev cTb : FS := (sSeq (sPar 10 11 (aCons (eApp gListM (aCons (eVar 6) aNil)) (aCons (eCall (g__law_shuffled) [] 2 (aCons (eVar 0) (aCons (eLst (aCons (eInt 0) (aCons (eInt 1) (aCons (eInt 2) (aCons (eInt 3) (aCons (eInt 4) aNil)))))) aNil))) aNil))) (sSeq (sParIx (eCall (g__law_pick) [] 2 (aCons (eVar 0) (aCons (eTwo gIx (eVar 2) (eTwo gIx (eVar 11) (eInt 0))) aNil))) (eTwo gIx (eVar 11) (eInt 1)) (eVar 10) (eTwo gIx (eVar 11) (eInt 0)) 12) (sSeq (sSetIx (eCall (g__law_pick) [] 2 (aCons (eVar 0) (aCons (eTwo gIx (eVar 2) (eVar 12)) aNil))) (eVar 10) (eVar 12)) (sExpr (eAppend (eVar 7) (eApp gTuple (aCons (eVar 10) aNil)))))))
abbrev cE (cM cX : Addr) : FS := (sIf (fB (eTwo gNe (eLc (iVal (eSeal (eVar 7))) (gNm 13) [13] (tNotF (fTru (eCall (g__law_value_right cM cX) [] 1 (aCons (eVar 13) aNil)))) (eVar 13)) (eLst aNil))) (sRet (eBool false)) sNx)
theorem mem_rg {a b : Int} {d : D} (hd : d ∈ rangeD a b) : ∃ j : Int, a ≤ j ∧ j < b ∧ d = .int j := by
  unfold rangeD at hd
  simp only [List.mem_map, List.mem_range] at hd
  obtain ⟨i, hi, rfl⟩ := hd
  exact ⟨_, by omega, by omega, rfl⟩
/-- five parts -/
def PF (xs : List D) : Prop := xs.length = 5 ∧ ∀ d ∈ xs, Pl d
theorem PF.pv {xs : List D} (h : PF xs) : PV (.tup xs) := by
  obtain ⟨hl, hp⟩ := h
  match xs, hl, hp with
  | [a, k, t, p, kp], _, hp => exact .inr ⟨a, k, t, p, kp, rfl, hp a (by simp), hp k (by simp), hp t (by simp), hp p (by simp), hp kp (by simp)⟩
theorem PF.set {xs : List D} (h : PF xs) {d : D} (hd : Pl d) (i : Nat) : PF (xs.set i d) := ⟨by rw [List.length_set]; exact h.1, fun x hx => by
  rcases List.mem_or_eq_of_mem_set hx with q | q
  · exact h.2 x q
  · rw [q]; exact hd⟩
/-- the five lists of near parts -/
structure Near (ls : List D) : Prop where
  ex : ∃ A B T C G : List D, ls = [.lst A, .lst B, .lst T, .lst C, .lst G] ∧ NearOk A ∧ NearOk B ∧ NearOk T ∧ NearOk C ∧ NearOk G
theorem Near.at {ls : List D} (h : Near ls) {j : Int} (h0 : 0 ≤ j) (h1 : j < 5) : ∃ xs, atI ls j = some (.lst xs) ∧ NearOk xs := by
  obtain ⟨A, B, T, C, G, rfl, hA, hB, hT, hC, hG⟩ := h.ex
  have : j = 0 ∨ j = 1 ∨ j = 2 ∨ j = 3 ∨ j = 4 := by omega
  rcases this with rfl | rfl | rfl | rfl | rfl
  · exact ⟨A, by simp [atI, ixN], hA⟩
  · exact ⟨B, by simp [atI, ixN], hB⟩
  · exact ⟨T, by simp [atI, ixN], hT⟩
  · exact ⟨C, by simp [atI, ixN], hC⟩
  · exact ⟨G, by simp [atI, ixN], hG⟩
theorem Stk.app {M : Mem} {n : Nat} (h : Stk M n) (x : Option (List D)) : Stk (M ++ [x]) n := by
  have hn := h.lt
  obtain ⟨a, b, c, e⟩ := h
  exact ⟨a, b, c, by rw [List.getElem?_append_left hn]; exact e⟩
theorem Stk.oth {M : Mem} {n m : Nat} (h : Stk M n) (hm : m ≠ n) (x : Option (List D)) : Stk (M.set m x) n := by
  obtain ⟨a, b, c, e⟩ := h
  exact ⟨a, b, c, by rw [List.getElem?_set_ne hm]; exact e⟩
abbrev one14 : FE := (eApp gTuple (aCons (eTwo gAdd (eTwo gAdd (eCut (eVar 6) oNo (oSo (eVar 8))) (eLst (aCons (eVar 14) aNil))) (eCut (eVar 6) (oSo (eTwo gAdd (eVar 8) (eInt 1))) oNo)) aNil))
theorem one_ok {a k t p kp d : D} {j : Int} (h0 : 0 ≤ j) (h1 : j < 5) (x0 x1 x2 x3 x4 x5 x7 x9 x10 x11 x12 x13 : Option D) (M : Mem) :
    one14 [x0, x1, x2, x3, x4, x5, some (.lst [a, k, t, p, kp]), x7, some (.int j), x9, x10, x11, x12, x13, some d] M = .ok (.tup ([a, k, t, p, kp].set j.toNat d)) M := by
  have : j = 0 ∨ j = 1 ∨ j = 2 ∨ j = 3 ∨ j = 4 := by omega
  rcases this with rfl | rfl | rfl | rfl | rfl <;> simp [one14, Den.cutD, HT.sIx, line1k]
theorem part_turn {n f : Nat} {M : Mem} {a k t p kp : D} {ls vs : List D} (hmv : PF [a, k, t, p, kp]) (hn : Near ls) (hs : Stk M n) (hf : M[f]? = some (some vs)) (hv : ∀ v ∈ vs, PV v) (hl : vs.length ≤ 1000) {j : Int} (h0 : 0 ≤ j) (h1 : j < 5) (x1 x3 x4 x5 x9 x10 x11 x12 x13 x14 : Option D) :
    ∃ M' f' vs', cPb [some (.loc n), x1, some (.lst ls), x3, x4, x5, some (.lst [a, k, t, p, kp]), some (.loc f), some (.int j), x9, x10, x11, x12, x13, x14] M
        = .ok (.nx [some (.loc n), x1, some (.lst ls), x3, x4, x5, some (.lst [a, k, t, p, kp]), some (.loc f'), some (.int j), x9, x10, x11, x12, x13, x14]) M' ∧
      Stk M' n ∧ f' ≠ n ∧ M'[f']? = some (some vs') ∧ (∀ v ∈ vs', PV v) ∧ vs'.length ≤ vs.length + 100 := by
  obtain ⟨xs, hx, hN⟩ := hn.at h0 h1
  have c := lcD_pure (g := gNm 14) (t := tTrue) (f := one14) (ρ := [some (.loc n), x1, some (.lst ls), x3, x4, x5, some (.lst [a, k, t, p, kp]), some (.loc f), some (.int j), x9, x10, x11, x12, x13, none]) (M := M) (fun _ => true) (fun d => .tup ([a, k, t, p, kp].set j.toNat d)) (xs := xs) (by
    intro d hd
    exact ⟨_, rfl, rfl, fun _ => one_ok h0 h1 _ _ _ _ _ _ _ _ _ _ _ _ M⟩)
  rw [List.filter_eq_self.mpr fun _ _ => rfl] at c
  have ll : xs.length ≤ lineD := line1k (by have := hN.2.2; omega)
  have l2 : vs.length + (xs.map fun d => D.tup ([a, k, t, p, kp].set j.toNat d)).length ≤ lineD := line1k (by rw [List.length_map]; have := hN.2.2; omega)
  have hlt := hs.lt
  refine ⟨M ++ [some (vs ++ xs.map fun d => D.tup ([a, k, t, p, kp].set j.toNat d))], M.length, _, ?_, hs.app _, by omega, grow_at _, fun v hv' => ?_, by rw [List.length_append, List.length_map]; have := hN.2.2; omega⟩
  · have ws : wipeD [some (D.loc n), x1, some (.lst ls), x3, x4, x5, some (.lst [a, k, t, p, kp]), some (.loc f), some (.int j), x9, x10, x11, x12, x13, x14] [14] = [some (D.loc n), x1, some (.lst ls), x3, x4, x5, some (.lst [a, k, t, p, kp]), some (.loc f), some (.int j), x9, x10, x11, x12, x13, none] := rfl
    have c' := c
    simp only [one14] at c'
    simp only [cPb, sSet, eTwo, eVar, eLc, iVal, itD, Out.bind_ok, List.getElem?_cons_succ, List.getElem?_cons_zero, gIx, itemsD, hx, ws, ll, if_true, c', gAddM, lstD, hf, l2, List.set_cons_succ, List.set_cons_zero]
  · rcases List.mem_append.mp hv' with q | q
    · exact hv v q
    · obtain ⟨d, hd, rfl⟩ := List.mem_map.mp q
      exact (hmv.set (hN.1 d hd) _).pv

theorem five_two {ys : List D} (h : ∀ y ∈ ys, Five y) (hl : ys.length = 5) : ∃ i j : Int, 0 ≤ i ∧ i < 5 ∧ 0 ≤ j ∧ j < 5 ∧ atI ys 0 = some (.int i) ∧ atI ys 1 = some (.int j) := by
  match ys, hl, h with
  | [a, b, c, d, e], _, h =>
    obtain ⟨i, rfl, i0, i1⟩ := h a (by simp)
    obtain ⟨j, rfl, j0, j1⟩ := h b (by simp)
    exact ⟨i, j, i0, i1, j0, j1, by simp [atI, ixN], by simp [atI, ixN]⟩
theorem ix5 {xs : List D} (h : xs.length = 5) {j : Int} (h0 : 0 ≤ j) (h1 : j < 5) : ixN xs.length j = some j.toNat := by
  unfold ixN
  rw [h, if_pos h0, if_pos (by omega)]
theorem turn_turn {n f : Nat} {M : Mem} {mv ls vs : List D} (hmv : PF mv) (hn : Near ls) (hs : Stk M n) (nf : f ≠ n) (hf : M[f]? = some (some vs)) (hv : ∀ v ∈ vs, PV v) (hl : vs.length ≤ 1000) (x1 x3 x4 x5 x8 x9 x10 x11 x12 x13 x14 : Option D) :
    ∃ M' y10 y11 y12 vs', cTb [some (.loc n), x1, some (.lst ls), x3, x4, x5, some (.lst mv), some (.loc f), x8, x9, x10, x11, x12, x13, x14] M
        = .ok (.nx [some (.loc n), x1, some (.lst ls), x3, x4, x5, some (.lst mv), some (.loc f), x8, x9, y10, y11, y12, x13, x14]) M' ∧
      Stk M' n ∧ M'[f]? = some (some vs') ∧ (∀ v ∈ vs', PV v) ∧ vs'.length ≤ vs.length + 1 := by
  have ltn := hs.lt
  have ltf := (List.getElem?_eq_some_iff.mp hf).1
  -- the row, the spots
  have s1 := hs.app (some mv)
  have f1 : (M ++ [some mv])[f]? = some (some vs) := by rw [List.getElem?_append_left ltf]; exact hf
  obtain ⟨ys, M2, e2, p2, l2, s2, q2, o2⟩ := shuffled5_ok s1
  have r2 : M2[M.length]? = some (some mv) := by rw [o2 _ (by omega) (by simp)]; exact grow_at _
  have f2 : M2[f]? = some (some vs) := by rw [o2 _ nf (by simp; omega)]; exact f1
  obtain ⟨i, j, i0, i1, j0, j1, a0, a1⟩ := five_two p2 l2
  -- the first pick
  obtain ⟨xs, hx, hN⟩ := hn.at i0 i1
  obtain ⟨d, M3, e3, d3, s3, k3⟩ := pick_ok (xs := xs) s2 hN.2.1 (by have := hN.2.2; omega)
  have r3 : M3[M.length]? = some (some mv) := by rw [k3.2 _ (by omega)]; exact r2
  have f3 : M3[f]? = some (some vs) := by rw [k3.2 _ nf]; exact f2
  have lr3 := (List.getElem?_eq_some_iff.mp r3).1
  have rn : M.length ≠ n := by omega
  have rf : M.length ≠ f := by omega
  have s4 := s3.oth rn (some (mv.set i.toNat d))
  have r4 : (M3.set M.length (some (mv.set i.toNat d)))[M.length]? = some (some (mv.set i.toNat d)) := by rw [List.getElem?_set_self lr3]
  have f4 : (M3.set M.length (some (mv.set i.toNat d)))[f]? = some (some vs) := by rw [List.getElem?_set_ne rf]; exact f3
  have w1 := hmv.set (hN.1 d d3) i.toNat
  -- the second pick
  obtain ⟨xs5, hx5, hN5⟩ := hn.at j0 j1
  obtain ⟨d5, M5, e5, g5, s5, k5⟩ := pick_ok (xs := xs5) s4 hN5.2.1 (by have := hN5.2.2; omega)
  have r5 : M5[M.length]? = some (some (mv.set i.toNat d)) := by rw [k5.2 _ rn]; exact r4
  have f5 : M5[f]? = some (some vs) := by rw [k5.2 _ nf]; exact f4
  have lr5 := (List.getElem?_eq_some_iff.mp r5).1
  have s6 := s5.oth rn (some ((mv.set i.toNat d).set j.toNat d5))
  have r6 : (M5.set M.length (some ((mv.set i.toNat d).set j.toNat d5)))[M.length]? = some (some ((mv.set i.toNat d).set j.toNat d5)) := by rw [List.getElem?_set_self lr5]
  have f6 : (M5.set M.length (some ((mv.set i.toNat d).set j.toNat d5)))[f]? = some (some vs) := by rw [List.getElem?_set_ne rf]; exact f5
  have w2 := w1.set (hN5.1 d5 g5) j.toNat
  have l1 : vs.length + 1 ≤ lineD := line1k (by omega)
  have lt6 := (List.getElem?_eq_some_iff.mp f6).1
  refine ⟨(M5.set M.length (some ((mv.set i.toNat d).set j.toNat d5))).set f (some (vs ++ [.tup ((mv.set i.toNat d).set j.toNat d5)])), some (.loc M.length), some (.lst ys), some (.int j), vs ++ [.tup ((mv.set i.toNat d).set j.toNat d5)], ?_, s6.oth nf _, by rw [List.getElem?_set_self lt6], fun v hv' => ?_, by simp⟩
  · have ix1 := ix5 hmv.1 i0 i1
    have ix2 := ix5 w1.1 j0 j1
    have le5 : (5 : Nat) ≤ lineD := line1k (by decide)
    have z1 : (eLst (aCons (eInt 0) (aCons (eInt 1) (aCons (eInt 2) (aCons (eInt 3) (aCons (eInt 4) aNil)))))) = fun _ M => .ok (.lst [.int 0, .int 1, .int 2, .int 3, .int 4]) M := by
      funext ρ M
      simp [le5]
    simp only [cTb, z1, sSeq, sPar, sParIx, sSetIx, sExpr, eAppend, eTwo, eVar, eCall, eApp, aCons, aNil, Out.bind_ok, Out.then, List.getElem?_cons_succ, List.getElem?_cons_zero, List.append_nil, List.length_cons, List.length_nil, if_true, gListM, itemsD, e2, List.set_cons_succ, List.set_cons_zero, gIx, eInt, a0, a1, hx, e3, setM, r3, ix1, hx5, e5, r5, ix2, locOk, f6, gTuple, r6, gAppend, l1]
  · rcases List.mem_append.mp hv' with q | q
    · exact hv v q
    · rw [List.mem_singleton.mp q]; exact w2.pv
end K05
namespace K05
open PySem PySem.Spec PyProof.Rows L2 Den
theorem rg1 (a : Int) (q : -1000000000 ≤ a ∧ a ≤ 1000000000) (M : Mem) : gRg1 [.int a] M = .ok (rangeD 0 a) M := if_pos q
theorem for_eq {fi : FI} {g : TgD} {b : FS} {ρ : Ro} {M M1 : Mem} {xs : List D} {o : Out Fl} (h : fi ρ M = .ok xs M1) (e : loopD g b xs ρ M1 = o) : sFor fi g b ρ M = o := by unfold sFor; rw [h]; exact e
theorem for5 (k : Int) (q : -1000000000 ≤ k ∧ k ≤ 1000000000) (ρ : Ro) (M : Mem) : iRg1 (aCons (eInt k) aNil) ρ M = .ok (rangeD 0 k) M := rg1 k q M
def Act (d : D) : Prop := ∃ s : Str, d = .str s ∧ Asc s
theorem acts4 : ∀ d ∈ [D.str "output", .str "send", .str "take", .str "work"], Act d := by
  intro d hd
  simp only [List.mem_cons, List.not_mem_nil, or_false] at hd
  rcases hd with rfl | rfl | rfl | rfl <;> exact ⟨_, rfl, by decide +kernel⟩
section
variable {n : Nat} {M : Mem} {y z : Str} {ls : List D} {s : Str}
theorem a_ok (hy : Low 8 y) (hz : Low 8 z) (hs : Stk M n) (x2 x4 x5 x6 x7 x8 x9 x10 x11 x12 x13 x14 : Option D) :
    ∃ k M', cA [some (.loc n), some (.lst [.str y, .str z]), x2, some (.str s), x4, x5, x6, x7, x8, x9, x10, x11, x12, x13, x14] M = .ok (.nx [some (.loc n), some (.lst [.str y, .str z]), x2, some (.str s), some k, x5, x6, x7, x8, x9, x10, x11, x12, x13, x14]) M' ∧ Pl k ∧ Stk M' n := by
  have le2 : (2 : Nat) ≤ lineD := line1k (by decide)
  cases h : inSend (.str s) with
  | false => exact ⟨.non, M, by simp [cA, ls_send, h, le2, -gInS], trivial, hs⟩
  | true =>
    obtain ⟨r, M1, e, r0, r1, s1, _⟩ := draw_ok hs (t := 2) (by decide) (by decide)
    have : r = 0 ∨ r = 1 := by omega
    rcases this with rfl | rfl
    · exact ⟨.str y, M1, by simp [cA, ls_send, h, le2, e, atI, ixN, -gInS], asc_low hy (by decide), s1⟩
    · exact ⟨.str z, M1, by simp [cA, ls_send, h, le2, e, atI, ixN, -gInS], asc_low hz (by decide), s1⟩
theorem b_ok (hs : Stk M n) (x1 x2 x4 x5 x6 x7 x8 x9 x10 x11 x12 x13 x14 : Option D) :
    ∃ kp M', cB [some (.loc n), x1, x2, some (.str s), x4, x5, x6, x7, x8, x9, x10, x11, x12, x13, x14] M = .ok (.nx [some (.loc n), x1, x2, some (.str s), x4, some kp, x6, x7, x8, x9, x10, x11, x12, x13, x14]) M' ∧ Pl kp ∧ Stk M' n := by
  have le2 : (2 : Nat) ≤ lineD := line1k (by decide)
  have le3 : (3 : Nat) ≤ lineD := line1k (by decide)
  have pn : Pl (.str (Str.ofString "note")) := pl_str (by decide +kernel)
  have ps : Pl (.str (Str.ofString "save")) := pl_str (by decide +kernel)
  cases h : sIs (.str s) "take" with
  | false =>
    obtain ⟨d, M1, e, hd, s1, _⟩ := pick_ok (xs := [.non, .str "save"]) hs (by simp) (by simp)
    refine ⟨d, M1, by simp [cB, eq_str, h, le2, e, -gEq_ap], ?_, s1⟩
    simp only [List.mem_cons, List.not_mem_nil, or_false] at hd
    rcases hd with rfl | rfl
    · trivial
    · exact ps
  | true =>
    obtain ⟨d, M1, e, hd, s1, _⟩ := pick_ok (xs := [.non, .str "save", .str "note"]) hs (by simp) (by simp)
    refine ⟨d, M1, by simp [cB, eq_str, h, le3, e, -gEq_ap], ?_, s1⟩
    simp only [List.mem_cons, List.not_mem_nil, or_false] at hd
    rcases hd with rfl | rfl | rfl
    · trivial
    · exact ps
    · exact pn
theorem c_ok (ha : Asc s) {k kp : D} (hk : Pl k) (hkp : Pl kp) (hs : Stk M n) (x1 x2 x6 x7 x8 x9 x10 x11 x12 x13 x14 : Option D) :
    ∃ t p M', cC [some (.loc n), x1, x2, some (.str s), some k, some kp, x6, x7, x8, x9, x10, x11, x12, x13, x14] M = .ok (.nx [some (.loc n), x1, x2, some (.str s), some k, some kp, some (.lst [.str s, k, t, p, kp]), x7, x8, x9, x10, x11, x12, x13, x14]) M' ∧ PF [.str s, k, t, p, kp] ∧ Stk M' n := by
  have le5 : (5 : Nat) ≤ lineD := line1k (by decide)
  obtain ⟨r, M1, e, r0, r1, s1, _⟩ := draw_ok hs (t := 6) (by decide) (by decide)
  obtain ⟨q, M2, e2, q0, q1, s2, _⟩ := draw_ok s1 (t := 10) (by decide) (by decide)
  refine ⟨.int r, .int q, M2, by simp [cC, e, e2, le5], ⟨rfl, fun d hd => ?_⟩, s2⟩
  simp only [List.mem_cons, List.not_mem_nil, or_false] at hd
  rcases hd with rfl | rfl | rfl | rfl | rfl
  · exact ha
  · exact hk
  · trivial
  · trivial
  · exact hkp
theorem d_ok {k t p kp : D} (hm : PF [.str s, k, t, p, kp]) (hs : Stk M n) (x1 x2 x4 x5 x7 x8 x9 x10 x11 x12 x13 x14 : Option D) :
    ∃ vs, cD [some (.loc n), x1, x2, some (.str s), x4, x5, some (.lst [.str s, k, t, p, kp]), x7, x8, x9, x10, x11, x12, x13, x14] M = .ok (.nx [some (.loc n), x1, x2, some (.str s), x4, x5, some (.lst [.str s, k, t, p, kp]), some (.loc M.length), x8, x9, x10, x11, x12, x13, x14]) (M ++ [some vs]) ∧ (∀ v ∈ vs, PV v) ∧ vs.length ≤ 8 := by
  refine ⟨[.tup [.str s, k, t, p, kp], .tup [.str s, k, t, p], .tup [.str s, k, t, p, kp, .non], .lst [.str s, k, t, p, kp], .non, .str s, .tup [], .tup [.tup [.str s, k, t, p, kp]]], ?_, fun v hv => ?_, by simp⟩
  · simp [cD, Den.cutD, HT.sIx, line1k]
  · simp only [List.mem_cons, List.not_mem_nil, or_false] at hv
    rcases hv with rfl | rfl | rfl | rfl | rfl | rfl | rfl | rfl
    · exact hm.pv
    · exact .inl (.inl ⟨_, rfl, by simp⟩)
    · exact .inl (.inl ⟨_, rfl, by simp⟩)
    · exact .inl (.inr ⟨_, rfl, by decide⟩)
    · exact .inl (.inr ⟨_, rfl, by decide⟩)
    · exact .inl (.inr ⟨_, rfl, by decide⟩)
    · exact .inl (.inl ⟨_, rfl, by simp⟩)
    · exact .inl (.inl ⟨_, rfl, by simp⟩)
theorem p_ok {f : Nat} {a k t p kp : D} {vs : List D} (hmv : PF [a, k, t, p, kp]) (hn : Near ls) (hs : Stk M n) (nf : f ≠ n) (hf : M[f]? = some (some vs)) (hv : ∀ v ∈ vs, PV v) (hl : vs.length ≤ 8) (x1 x3 x4 x5 x8 x9 x10 x11 x12 x13 x14 : Option D) :
    ∃ f' vs' y8 M', sFor (iRg1 (aCons (eInt 5) aNil)) (gNm 8) cPb [some (.loc n), x1, some (.lst ls), x3, x4, x5, some (.lst [a, k, t, p, kp]), some (.loc f), x8, x9, x10, x11, x12, x13, x14] M
      = .ok (.nx [some (.loc n), x1, some (.lst ls), x3, x4, x5, some (.lst [a, k, t, p, kp]), some (.loc f'), y8, x9, x10, x11, x12, x13, x14]) M' ∧ Stk M' n ∧ f' ≠ n ∧ M'[f']? = some (some vs') ∧ (∀ v ∈ vs', PV v) ∧ vs'.length ≤ 508 := by
  have hr : (rangeD 0 5).length = 5 := rfl
  obtain ⟨ρ', M', e, f', vs', y8, rfl, h1, h2, h3, h4, h5⟩ := loop_invN (g := gNm 8) (body := cPb) (fun i ρ M => ∃ f vs y8, ρ = [some (.loc n), x1, some (.lst ls), x3, x4, x5, some (.lst [a, k, t, p, kp]), some (.loc f), y8, x9, x10, x11, x12, x13, x14] ∧ Stk M n ∧ f ≠ n ∧ M[f]? = some (some vs) ∧ (∀ v ∈ vs, PV v) ∧ vs.length ≤ 8 + 100 * i) (xs := rangeD 0 5) (ρ := [some (.loc n), x1, some (.lst ls), x3, x4, x5, some (.lst [a, k, t, p, kp]), some (.loc f), x8, x9, x10, x11, x12, x13, x14]) (M := M) 0 (by
    rintro i d hd ρ M ⟨f, vs, y8, rfl, h1, h2, h3, h4, h5⟩
    obtain ⟨j, j0, j1, rfl⟩ := mem_rg (List.mem_of_getElem? hd)
    have hi : i < 5 := by have := (List.getElem?_eq_some_iff.mp hd).1; rw [hr] at this; exact this
    obtain ⟨M2, f2, vs2, e2, g1, g2, g3, g4, g5⟩ := part_turn hmv hn h1 h3 h4 (by omega) j0 j1 x1 x3 x4 x5 x9 x10 x11 x12 x13 x14
    exact ⟨_, _, M2, rfl, .inl e2, f2, vs2, some (.int j), rfl, g1, g2, g3, g4, by omega⟩) ⟨f, vs, x8, rfl, hs, nf, hf, hv, by omega⟩
  exact ⟨f', vs', y8, M', for_eq (for5 5 ⟨by decide, by decide⟩ _ _) e, h1, h2, h3, h4, by rw [hr] at h5; omega⟩
theorem t_ok {f : Nat} {mv vs : List D} (hmv : PF mv) (hn : Near ls) (hs : Stk M n) (nf : f ≠ n) (hf : M[f]? = some (some vs)) (hv : ∀ v ∈ vs, PV v) (hl : vs.length ≤ 508) (x1 x3 x4 x5 x8 x9 x10 x11 x12 x13 x14 : Option D) :
    ∃ vs' y9 y10 y11 y12 M', sFor (iRg1 (aCons (eInt 12) aNil)) (gNm 9) cTb [some (.loc n), x1, some (.lst ls), x3, x4, x5, some (.lst mv), some (.loc f), x8, x9, x10, x11, x12, x13, x14] M
      = .ok (.nx [some (.loc n), x1, some (.lst ls), x3, x4, x5, some (.lst mv), some (.loc f), x8, y9, y10, y11, y12, x13, x14]) M' ∧ Stk M' n ∧ M'[f]? = some (some vs') ∧ (∀ v ∈ vs', PV v) ∧ vs'.length ≤ 520 := by
  have hr : (rangeD 0 12).length = 12 := rfl
  obtain ⟨ρ', M', e, vs', y9, y10, y11, y12, rfl, h1, h3, h4, h5⟩ := loop_invN (g := gNm 9) (body := cTb) (fun i ρ M => ∃ vs y9 y10 y11 y12, ρ = [some (.loc n), x1, some (.lst ls), x3, x4, x5, some (.lst mv), some (.loc f), x8, y9, y10, y11, y12, x13, x14] ∧ Stk M n ∧ M[f]? = some (some vs) ∧ (∀ v ∈ vs, PV v) ∧ vs.length ≤ 508 + i) (xs := rangeD 0 12) (ρ := [some (.loc n), x1, some (.lst ls), x3, x4, x5, some (.lst mv), some (.loc f), x8, x9, x10, x11, x12, x13, x14]) (M := M) 0 (by
    rintro i d hd ρ M ⟨vs, y9, y10, y11, y12, rfl, h1, h3, h4, h5⟩
    have hi : i < 12 := by have := (List.getElem?_eq_some_iff.mp hd).1; rw [hr] at this; exact this
    obtain ⟨M2, z10, z11, z12, vs2, e2, g1, g3, g4, g5⟩ := turn_turn hmv hn h1 nf h3 h4 (by omega) x1 x3 x4 x5 x8 (some d) y10 y11 y12 x13 x14
    exact ⟨_, _, M2, rfl, .inl e2, vs2, some d, z10, z11, z12, rfl, g1, g3, g4, by omega⟩) ⟨vs, x9, x10, x11, x12, rfl, hs, hf, hv, by omega⟩
  exact ⟨vs', y9, y10, y11, y12, M', for_eq (for5 12 ⟨by decide, by decide⟩ _ _) e, h1, h3, h4, by rw [hr] at h5; omega⟩
theorem ne_nil (M : Mem) : gNe (.lst []) (.lst []) M = .ok (.bl false) M := by
  have sn : SeqAt.shaped (.list []) = true := by decide +kernel
  simp [toPy, toPys, sn, eqv_nil]
theorem e_ok {cM cX : Addr} {f : Nat} {vs : List D} (hs : Stk M n) (nf : f ≠ n) (hf : M[f]? = some (some vs)) (hv : ∀ v ∈ vs, PV v) (hl : vs.length ≤ 520) (x1 x2 x3 x4 x5 x6 x8 x9 x10 x11 x12 x13 x14 : Option D) :
    cE cM cX [some (.loc n), x1, x2, x3, x4, x5, x6, some (.loc f), x8, x9, x10, x11, x12, x13, x14] M = .ok (.nx [some (.loc n), x1, x2, x3, x4, x5, x6, some (.loc f), x8, x9, x10, x11, x12, x13, x14]) (M.set f none) := by
  have c := lcD_pure (g := gNm 13) (t := (tNotF (fTru (eCall (g__law_value_right cM cX) [] 1 (aCons (eVar 13) aNil))))) (f := eVar 13) (ρ := [some (.loc n), x1, x2, x3, x4, x5, x6, some (.loc f), x8, x9, x10, x11, x12, none, x14]) (M := M.set f none) (fun _ => false) (fun d => d) (xs := vs) (by
    intro d hd
    have e := value_right (cM := cM) (cX := cX) (hv d hd) (M.set f none)
    refine ⟨_, rfl, ?_, fun z => by cases z⟩
    simp [e])
  rw [List.filter_eq_nil_iff.mpr fun _ _ => by simp] at c
  have ll : vs.length ≤ lineD := line1k (by omega)
  have l0 : (0 : Nat) ≤ lineD := Nat.zero_le _
  have ws : wipeD [some (D.loc n), x1, x2, x3, x4, x5, x6, some (.loc f), x8, x9, x10, x11, x12, x13, x14] [13] = [some (D.loc n), x1, x2, x3, x4, x5, x6, some (.loc f), x8, x9, x10, x11, x12, none, x14] := rfl
  simp only [cE, sIf, fB, eTwo, eLc, iVal, eSeal, eVar, Out.bind_ok, List.getElem?_cons_succ, List.getElem?_cons_zero, hf, itD, ll, if_true, ws, c, List.map_nil, eLst, aNil, List.length_nil, l0, ne_nil, asB, Bool.false_eq_true, if_false, sNx]
end
end K05
namespace K05
open PySem PySem.Spec PyProof.Rows L2 Den
theorem cell_ok {cM cX : Addr} {M : Mem} {n : Nat} (hs : Stk M n) : ∃ M', g__law_cell_right cM cX [.loc n] M = .ok (.bl true) M' := by
  obtain ⟨a, b, M1, e1, wa, wb, s1⟩ := many_ok hs
  obtain ⟨y, rfl, ly, hy⟩ := wa
  obtain ⟨z, rfl, lz, hz⟩ := wb
  obtain ⟨A, B, T, C, G, e2, hA, hB, hT, hC, hG⟩ := near_ok ly lz n
  have hn : Near [.lst A, .lst B, .lst T, .lst C, .lst G] := ⟨_, _, _, _, _, rfl, hA, hB, hT, hC, hG⟩
  obtain ⟨ρ', M', e3, _⟩ := loop_inv (g := gNm 3) (body := sSeq cA (sSeq cB (sSeq cC (sSeq cD (sSeq (sFor (iRg1 (aCons (eInt 5) aNil)) (gNm 8) cPb) (sSeq (sFor (iRg1 (aCons (eInt 12) aNil)) (gNm 9) cTb) (cE cM cX)))))))
    (fun ρ M => Stk M n ∧ ∃ x3 x4 x5 x6 x7 x8 x9 x10 x11 x12 x13 x14, ρ = [some (.loc n), some (.lst [.str y, .str z]), some (.lst [.lst A, .lst B, .lst T, .lst C, .lst G]), x3, x4, x5, x6, x7, x8, x9, x10, x11, x12, x13, x14])
    (xs := [.str "output", .str "send", .str "take", .str "work"]) (ρ := [some (.loc n), some (.lst [.str y, .str z]), some (.lst [.lst A, .lst B, .lst T, .lst C, .lst G]), none, none, none, none, none, none, none, none, none, none, none, none]) (M := M1) (by
    rintro d hd ρ M ⟨h1, x3, x4, x5, x6, x7, x8, x9, x10, x11, x12, x13, x14, rfl⟩
    obtain ⟨s, rfl, as⟩ := acts4 d hd
    obtain ⟨k, M2, q1, hk, s2⟩ := a_ok (s := s) ly lz h1 (some (.lst [.lst A, .lst B, .lst T, .lst C, .lst G])) x4 x5 x6 x7 x8 x9 x10 x11 x12 x13 x14
    obtain ⟨kp, M3, q2, hkp, s3⟩ := b_ok (s := s) s2 (some (.lst [.str y, .str z])) (some (.lst [.lst A, .lst B, .lst T, .lst C, .lst G])) (some k) x5 x6 x7 x8 x9 x10 x11 x12 x13 x14
    obtain ⟨t, p, M4, q3, hm, s4⟩ := c_ok as hk hkp s3 (some (.lst [.str y, .str z])) (some (.lst [.lst A, .lst B, .lst T, .lst C, .lst G])) x6 x7 x8 x9 x10 x11 x12 x13 x14
    obtain ⟨vs, q4, hv, hl⟩ := d_ok hm s4 (some (.lst [.str y, .str z])) (some (.lst [.lst A, .lst B, .lst T, .lst C, .lst G])) (some k) (some kp) x7 x8 x9 x10 x11 x12 x13 x14
    have lt4 := s4.lt
    obtain ⟨f', vs5, y8, M5, q5, s5, nf5, f5, v5, l5⟩ := p_ok hm hn (s4.app (some vs)) (f := M4.length) (by omega) (grow_at _) hv hl (some (.lst [.str y, .str z])) (some (.str s)) (some k) (some kp) x8 x9 x10 x11 x12 x13 x14
    obtain ⟨vs6, y9, y10, y11, y12, M6, q6, s6, f6, v6, l6⟩ := t_ok hm hn s5 nf5 f5 v5 l5 (some (.lst [.str y, .str z])) (some (.str s)) (some k) (some kp) y8 x9 x10 x11 x12 x13 x14
    have q7 := e_ok (cM := cM) (cX := cX) s6 nf5 f6 v6 l6 (some (.lst [.str y, .str z])) (some (.lst [.lst A, .lst B, .lst T, .lst C, .lst G])) (some (.str s)) (some k) (some kp) (some (.lst [.str s, k, t, p, kp])) y8 y9 y10 y11 y12 x13 x14
    refine ⟨[some (.loc n), some (.lst [.str y, .str z]), some (.lst [.lst A, .lst B, .lst T, .lst C, .lst G]), some (.str s), x4, x5, x6, x7, x8, x9, x10, x11, x12, x13, x14], [some (.loc n), some (.lst [.str y, .str z]), some (.lst [.lst A, .lst B, .lst T, .lst C, .lst G]), some (.str s), some k, some kp, some (.lst [.str s, k, t, p, kp]), some (.loc f'), y8, y9, y10, y11, y12, x13, x14], M6.set f' none, rfl, .inl ?_, s6.oth nf5 none, some (.str s), some k, some kp, some (.lst [.str s, k, t, p, kp]), some (.loc f'), y8, y9, y10, y11, y12, x13, x14, rfl⟩
    simp only [sSeq, List.set_cons_succ, List.set_cons_zero, q1, Out.then, Out.bind_ok, q2, q3, q4, q5, q6, q7]) ⟨s1, none, none, none, none, none, none, none, none, none, none, none, none, rfl⟩
  have le4 : (4 : Nat) ≤ lineD := line1k (by decide)
  have fo := fun (ρ : Ro) (M : Mem) => show iVal (eLst (aCons (eStr "output") (aCons (eStr "send") (aCons (eStr "take") (aCons (eStr "work") aNil))))) ρ M = .ok [.str "output", .str "send", .str "take", .str "work"] M by simp [le4]
  have e4 := for_eq (fo _ _) e3
  refine ⟨M', ?_⟩
  have fe : f__law_cell_right cM cX = sSeq (sSet 1 (eCall (g__law_many_words) [] 2 (aCons (eVar 0) (aCons (eInt 2) aNil)))) (sSeq (sSet 2 (eCall (g__law_near_parts) [] 2 (aCons (eVar 0) (aCons (eVar 1) aNil)))) (sSeq (sFor (iVal (eLst (aCons (eStr "output") (aCons (eStr "send") (aCons (eStr "take") (aCons (eStr "work") aNil)))))) (gNm 3)
    (sSeq cA (sSeq cB (sSeq cC (sSeq cD (sSeq (sFor (iRg1 (aCons (eInt 5) aNil)) (gNm 8) cPb) (sSeq (sFor (iRg1 (aCons (eInt 12) aNil)) (gNm 9) cTb) (cE cM cX)))))))) (sRet (eBool true)))) := rfl
  have st : ([D.loc n].map some ++ List.replicate (15 - [D.loc n].length) none : Ro) = [some (.loc n), none, none, none, none, none, none, none, none, none, none, none, none, none, none] := rfl
  show (((f__law_cell_right cM cX) ([D.loc n].map some ++ List.replicate (15 - [D.loc n].length) none) M).noX.bind _) = _
  rw [st, fe]
  simp only [sSeq, sSet, eCall, eVar, eInt, aCons, aNil, Out.bind_ok, Out.then, List.getElem?_cons_succ, List.getElem?_cons_zero, List.append_nil, List.length_cons, List.length_nil, if_true, e1, e2, List.set_cons_succ, List.set_cons_zero, e4, sRet, Out.noX]
theorem law_right {cM cX : Addr} {ns : List Int} (hl : ns.length ≤ 63) : ∃ M', g_law cM cX [.scr (ns.map D.int)] [] = .ok (.bl true) M' := by
  have hm : ∃ m : Int, ∀ b : Option D, ∀ M, (iRg1 (aCons (eApp gMax (aCons (eInt 1) (aCons (eApp gMin (aCons (eInt 5) (aCons (eApp gLen (aCons (eVar 0) aNil)) aNil))) aNil))) aNil)) [some (.scr (ns.map D.int)), b] M = .ok (rangeD 0 m) M := by
    let q : Int := if 1 < (if (ns.length : Int) < 5 then (ns.length : Int) else 5) then (if (ns.length : Int) < 5 then (ns.length : Int) else 5) else 1
    have q1 : q ≤ 5 := by simp only [q]; split <;> split <;> omega
    have q2 : -1000000000 ≤ q := by simp only [q]; split <;> split <;> omega
    refine ⟨q, fun b M => ?_⟩
    have e : (iRg1 (aCons (eApp gMax (aCons (eInt 1) (aCons (eApp gMin (aCons (eInt 5) (aCons (eApp gLen (aCons (eVar 0) aNil)) aNil))) aNil))) aNil)) [some (.scr (ns.map D.int)), b] M = gRg1 [.int q] M := by
      simp only [q]
      simp [-gRg1]
    rw [e]
    exact rg1 _ ⟨q2, by omega⟩ M
  obtain ⟨m, hm⟩ := hm
  obtain ⟨ρ', M', e, v, rfl⟩ := loop_inv (g := gNm 1) (body := (sIf (tNotF (fTru (eCall (g__law_cell_right cM cX) [] 1 (aCons (eCall (g__law_stock) [] 2 (aCons (eVar 0) (aCons (eVar 1) aNil))) aNil)))) (sRet (eBool false)) sNx)) (fun ρ _ => ∃ v, ρ = [some (.scr (ns.map D.int)), v]) (xs := rangeD 0 m) (ρ := [some (.scr (ns.map D.int)), none]) (M := []) (by
    rintro x hx ρ M ⟨v, rfl⟩
    obtain ⟨k, rfl⟩ : ∃ k : Nat, x = .int k := by
      unfold rangeD at hx
      simp only [List.mem_map, List.mem_range] at hx
      obtain ⟨i, _, rfl⟩ := hx
      exact ⟨i, by simp⟩
    obtain ⟨M1, e1, s1⟩ := stock_ok (M := M) (ns := ns) (k := k)
    obtain ⟨M2, e2⟩ := cell_ok (cM := cM) (cX := cX) s1
    refine ⟨[some (.scr (ns.map D.int)), some (.int k)], [some (.scr (ns.map D.int)), some (.int k)], M2, rfl, .inl ?_, ⟨_, rfl⟩⟩
    simp [e1, e2]) ⟨none, rfl⟩
  refine ⟨M', ?_⟩
  simp [g_law, f_law, -iRg1, hm, e]
end K05
namespace K05
open PySem PySem.Spec PyProof.Rows L2 Den
abbrev s__law_is_taken : Stmt := sT
theorem exm_own {K : Kf} {S : Addr} (h1 : PySem.W.subIn K (.ref S) (.type "BaseException") = some true) (h2 : PySem.W.isClsIn K S = true) (h3 : PySem.W.typeIn K (.ref S) = some (.type "type")) (h4 : PySem.W.subIn K (.ref S) (.ref S) = some true) :
    PySem.W.exmOne K (.ref S) (.ref S) = some true := by
  have h2' : (PySem.W.clsIn K S).isSome = true := h2
  simp [PySem.W.exmOne, PySem.W.kitCls, h1, h2', h3, h4]
/-! ### what the top has left, and the end -/
theorem all_mk {l : PySem.W.OpenLaw} {w : World} {K : Kf} {h : Heap} {mg : Str → Option Value} {fa f0 f1 f2 f3 f4 f5 f6 f7 f8 f9 f10 f11 f12 f13 f14 f15 f16 f17 f18 f19 f20 f21 f22 : Addr} (X : K.In h) (G : h.Ns mainGlobals mg) (hfa : mg "law" = some (.ref fa))
    {oc0 : Value} {od0 : Option Addr} {kV0 dc0 pm0 : Value} {an0 : Option Addr} {cd0 ct0 : Value} {sl0 : Array (Option Value)}
    {oc1 : Value} {od1 : Option Addr} {kV1 dc1 pm1 : Value} {an1 : Option Addr} {cd1 ct1 : Value} {sl1 : Array (Option Value)}
    {oc2 : Value} {od2 : Option Addr} {kV2 dc2 pm2 : Value} {an2 : Option Addr} {cd2 ct2 : Value} {sl2 : Array (Option Value)}
    {oc3 : Value} {od3 : Option Addr} {kV3 dc3 pm3 : Value} {an3 : Option Addr} {cd3 ct3 : Value} {sl3 : Array (Option Value)}
    {oc4 : Value} {od4 : Option Addr} {kV4 dc4 pm4 : Value} {an4 : Option Addr} {cd4 ct4 : Value} {sl4 : Array (Option Value)}
    {oc5 : Value} {od5 : Option Addr} {kV5 dc5 pm5 : Value} {an5 : Option Addr} {cd5 ct5 : Value} {sl5 : Array (Option Value)}
    {oc6 : Value} {od6 : Option Addr} {kV6 dc6 pm6 : Value} {an6 : Option Addr} {cd6 ct6 : Value} {sl6 : Array (Option Value)}
    {oc7 : Value} {od7 : Option Addr} {kV7 dc7 pm7 : Value} {an7 : Option Addr} {cd7 ct7 : Value} {sl7 : Array (Option Value)}
    {oc8 : Value} {od8 : Option Addr} {kV8 dc8 pm8 : Value} {an8 : Option Addr} {cd8 ct8 : Value} {sl8 : Array (Option Value)}
    {oc9 : Value} {od9 : Option Addr} {kV9 dc9 pm9 : Value} {an9 : Option Addr} {cd9 ct9 : Value} {sl9 : Array (Option Value)}
    {oc10 : Value} {od10 : Option Addr} {kV10 dc10 pm10 : Value} {an10 : Option Addr} {cd10 ct10 : Value} {sl10 : Array (Option Value)}
    {oc11 : Value} {od11 : Option Addr} {kV11 dc11 pm11 : Value} {an11 : Option Addr} {cd11 ct11 : Value} {sl11 : Array (Option Value)}
    {oc12 : Value} {od12 : Option Addr} {kV12 dc12 pm12 : Value} {an12 : Option Addr} {cd12 ct12 : Value} {sl12 : Array (Option Value)}
    {oc13 : Value} {od13 : Option Addr} {kV13 dc13 pm13 : Value} {an13 : Option Addr} {cd13 ct13 : Value} {sl13 : Array (Option Value)}
    {oc14 : Value} {od14 : Option Addr} {kV14 dc14 pm14 : Value} {an14 : Option Addr} {cd14 ct14 : Value} {sl14 : Array (Option Value)}
    {oc15 : Value} {od15 : Option Addr} {kV15 dc15 pm15 : Value} {an15 : Option Addr} {cd15 ct15 : Value} {sl15 : Array (Option Value)}
    {oc16 : Value} {od16 : Option Addr} {kV16 dc16 pm16 : Value} {an16 : Option Addr} {cd16 ct16 : Value} {sl16 : Array (Option Value)}
    {oc17 : Value} {od17 : Option Addr} {kV17 dc17 pm17 : Value} {an17 : Option Addr} {cd17 ct17 : Value} {sl17 : Array (Option Value)}
    {oc18 : Value} {od18 : Option Addr} {kV18 dc18 pm18 : Value} {an18 : Option Addr} {cd18 ct18 : Value} {sl18 : Array (Option Value)}
    {oc19 : Value} {od19 : Option Addr} {kV19 dc19 pm19 : Value} {an19 : Option Addr} {cd19 ct19 : Value} {sl19 : Array (Option Value)}
    {oc20 : Value} {od20 : Option Addr} {kV20 dc20 pm20 : Value} {an20 : Option Addr} {cd20 ct20 : Value} {sl20 : Array (Option Value)}
    {oc21 : Value} {od21 : Option Addr} {kV21 dc21 pm21 : Value} {an21 : Option Addr} {cd21 ct21 : Value} {sl21 : Array (Option Value)}
    {oc22 : Value} {od22 : Option Addr} {kV22 dc22 pm22 : Value} {an22 : Option Addr} {cd22 ct22 : Value} {sl22 : Array (Option Value)}
    {u_ACTS : Addr} {od_ACTS : Option Addr} {i_ACTS : Array Value} {n_ACTS : Nat} {sl_ACTS : Array (Option Value)}
    {u_KEEPINGS : Addr} {od_KEEPINGS : Option Addr} {i_KEEPINGS : Array Value} {n_KEEPINGS : Nat} {sl_KEEPINGS : Array (Option Value)}
    {t_MAX_LETTERS : Tok}
    {t_MAX_MOVES : Tok}
    {t_MAX_PRICE : Tok}
    {t_MAX_STATES : Tok}
    {cM cX fI fO fS pO pS : Addr} {rest1 rest2 : List Value}
    {ocI : Value} {odI : Option Addr} {kVI dcI pmI : Value} {anI : Option Addr} {cdI ctI : Value} {slI : Array (Option Value)}
    {ocO : Value} {odO : Option Addr} {kVO dcO pmO : Value} {anO : Option Addr} {cdO ctO : Value} {slO : Array (Option Value)}
    {ocS : Value} {odS : Option Addr} {kVS dcS pmS : Value} {anS : Option Addr} {cdS ctS : Value} {slS : Array (Option Value)}
    (a0 : PySem.W.nsIn K mainGlobals "is_integer" = some (some (.ref f0)))
    (l0 : K.lookup f0 = some ⟨oc0, od0, .func (PySem.W.fnOf "is_integer" "is_integer" (defArgs s_is_integer) (defBody s_is_integer) (defScope s_is_integer) .none kV0 dc0 pm0 an0 cd0 ct0), sl0⟩)
    (c0 : PySem.W.codeIn K cd0 "is_integer" = true)
    (k0 : PySem.W.keepIn K (.ref f0) = true)
    (a1 : PySem.W.nsIn K mainGlobals "is_below" = some (some (.ref f1)))
    (l1 : K.lookup f1 = some ⟨oc1, od1, .func (PySem.W.fnOf "is_below" "is_below" (defArgs s_is_below) (defBody s_is_below) (defScope s_is_below) .none kV1 dc1 pm1 an1 cd1 ct1), sl1⟩)
    (c1 : PySem.W.codeIn K cd1 "is_below" = true)
    (k1 : PySem.W.keepIn K (.ref f1) = true)
    (a2 : PySem.W.nsIn K mainGlobals "is_word" = some (some (.ref f2)))
    (l2 : K.lookup f2 = some ⟨oc2, od2, .func (PySem.W.fnOf "is_word" "is_word" (defArgs s_is_word) (defBody s_is_word) (defScope s_is_word) .none kV2 dc2 pm2 an2 cd2 ct2), sl2⟩)
    (c2 : PySem.W.codeIn K cd2 "is_word" = true)
    (k2 : PySem.W.keepIn K (.ref f2) = true)
    (a3 : PySem.W.nsIn K mainGlobals "is_price" = some (some (.ref f3)))
    (l3 : K.lookup f3 = some ⟨oc3, od3, .func (PySem.W.fnOf "is_price" "is_price" (defArgs s_is_price) (defBody s_is_price) (defScope s_is_price) .none kV3 dc3 pm3 an3 cd3 ct3), sl3⟩)
    (c3 : PySem.W.codeIn K cd3 "is_price" = true)
    (k3 : PySem.W.keepIn K (.ref f3) = true)
    (a4 : PySem.W.nsIn K mainGlobals "_can_have_kind" = some (some (.ref f4)))
    (l4 : K.lookup f4 = some ⟨oc4, od4, .func (PySem.W.fnOf "_can_have_kind" "_can_have_kind" (defArgs s__can_have_kind) (defBody s__can_have_kind) (defScope s__can_have_kind) .none kV4 dc4 pm4 an4 cd4 ct4), sl4⟩)
    (c4 : PySem.W.codeIn K cd4 "_can_have_kind" = true)
    (k4 : PySem.W.keepIn K (.ref f4) = true)
    (a5 : PySem.W.nsIn K mainGlobals "can_have_keeping" = some (some (.ref f5)))
    (l5 : K.lookup f5 = some ⟨oc5, od5, .func (PySem.W.fnOf "can_have_keeping" "can_have_keeping" (defArgs s_can_have_keeping) (defBody s_can_have_keeping) (defScope s_can_have_keeping) .none kV5 dc5 pm5 an5 cd5 ct5), sl5⟩)
    (c5 : PySem.W.codeIn K cd5 "can_have_keeping" = true)
    (k5 : PySem.W.keepIn K (.ref f5) = true)
    (a6 : PySem.W.nsIn K mainGlobals "is_move" = some (some (.ref f6)))
    (l6 : K.lookup f6 = some ⟨oc6, od6, .func (PySem.W.fnOf "is_move" "is_move" (defArgs s_is_move) (defBody s_is_move) (defScope s_is_move) .none kV6 dc6 pm6 an6 cd6 ct6), sl6⟩)
    (c6 : PySem.W.codeIn K cd6 "is_move" = true)
    (k6 : PySem.W.keepIn K (.ref f6) = true)
    (a7 : PySem.W.nsIn K mainGlobals "_is_state" = some (some (.ref f7)))
    (l7 : K.lookup f7 = some ⟨oc7, od7, .func (PySem.W.fnOf "_is_state" "_is_state" (defArgs s__is_state) (defBody s__is_state) (defScope s__is_state) .none kV7 dc7 pm7 an7 cd7 ct7), sl7⟩)
    (c7 : PySem.W.codeIn K cd7 "_is_state" = true)
    (k7 : PySem.W.keepIn K (.ref f7) = true)
    (a8 : PySem.W.nsIn K mainGlobals "_are_states" = some (some (.ref f8)))
    (l8 : K.lookup f8 = some ⟨oc8, od8, .func (PySem.W.fnOf "_are_states" "_are_states" (defArgs s__are_states) (defBody s__are_states) (defScope s__are_states) .none kV8 dc8 pm8 an8 cd8 ct8), sl8⟩)
    (c8 : PySem.W.codeIn K cd8 "_are_states" = true)
    (k8 : PySem.W.keepIn K (.ref f8) = true)
    (a9 : PySem.W.nsIn K mainGlobals "_law_stock" = some (some (.ref f9)))
    (l9 : K.lookup f9 = some ⟨oc9, od9, .func (PySem.W.fnOf "_law_stock" "_law_stock" (defArgs s__law_stock) (defBody s__law_stock) (defScope s__law_stock) .none kV9 dc9 pm9 an9 cd9 ct9), sl9⟩)
    (c9 : PySem.W.codeIn K cd9 "_law_stock" = true)
    (k9 : PySem.W.keepIn K (.ref f9) = true)
    (a10 : PySem.W.nsIn K mainGlobals "_law_draw" = some (some (.ref f10)))
    (l10 : K.lookup f10 = some ⟨oc10, od10, .func (PySem.W.fnOf "_law_draw" "_law_draw" (defArgs s__law_draw) (defBody s__law_draw) (defScope s__law_draw) .none kV10 dc10 pm10 an10 cd10 ct10), sl10⟩)
    (c10 : PySem.W.codeIn K cd10 "_law_draw" = true)
    (k10 : PySem.W.keepIn K (.ref f10) = true)
    (a11 : PySem.W.nsIn K mainGlobals "_law_pick" = some (some (.ref f11)))
    (l11 : K.lookup f11 = some ⟨oc11, od11, .func (PySem.W.fnOf "_law_pick" "_law_pick" (defArgs s__law_pick) (defBody s__law_pick) (defScope s__law_pick) .none kV11 dc11 pm11 an11 cd11 ct11), sl11⟩)
    (c11 : PySem.W.codeIn K cd11 "_law_pick" = true)
    (k11 : PySem.W.keepIn K (.ref f11) = true)
    (a12 : PySem.W.nsIn K mainGlobals "_law_shuffled" = some (some (.ref f12)))
    (l12 : K.lookup f12 = some ⟨oc12, od12, .func (PySem.W.fnOf "_law_shuffled" "_law_shuffled" (defArgs s__law_shuffled) (defBody s__law_shuffled) (defScope s__law_shuffled) .none kV12 dc12 pm12 an12 cd12 ct12), sl12⟩)
    (c12 : PySem.W.codeIn K cd12 "_law_shuffled" = true)
    (k12 : PySem.W.keepIn K (.ref f12) = true)
    (a13 : PySem.W.nsIn K mainGlobals "_law_letter" = some (some (.ref f13)))
    (l13 : K.lookup f13 = some ⟨oc13, od13, .func (PySem.W.fnOf "_law_letter" "_law_letter" (defArgs s__law_letter) (defBody s__law_letter) (defScope s__law_letter) .none kV13 dc13 pm13 an13 cd13 ct13), sl13⟩)
    (c13 : PySem.W.codeIn K cd13 "_law_letter" = true)
    (k13 : PySem.W.keepIn K (.ref f13) = true)
    (a14 : PySem.W.nsIn K mainGlobals "_law_many_words" = some (some (.ref f14)))
    (l14 : K.lookup f14 = some ⟨oc14, od14, .func (PySem.W.fnOf "_law_many_words" "_law_many_words" (defArgs s__law_many_words) (defBody s__law_many_words) (defScope s__law_many_words) .none kV14 dc14 pm14 an14 cd14 ct14), sl14⟩)
    (c14 : PySem.W.codeIn K cd14 "_law_many_words" = true)
    (k14 : PySem.W.keepIn K (.ref f14) = true)
    (a15 : PySem.W.nsIn K mainGlobals "_law_spelled" = some (some (.ref f15)))
    (l15 : K.lookup f15 = some ⟨oc15, od15, .func (PySem.W.fnOf "_law_spelled" "_law_spelled" (defArgs s__law_spelled) (defBody s__law_spelled) (defScope s__law_spelled) .none kV15 dc15 pm15 an15 cd15 ct15), sl15⟩)
    (c15 : PySem.W.codeIn K cd15 "_law_spelled" = true)
    (k15 : PySem.W.keepIn K (.ref f15) = true)
    (a16 : PySem.W.nsIn K mainGlobals "_law_is_below" = some (some (.ref f16)))
    (l16 : K.lookup f16 = some ⟨oc16, od16, .func (PySem.W.fnOf "_law_is_below" "_law_is_below" (defArgs s__law_is_below) (defBody s__law_is_below) (defScope s__law_is_below) .none kV16 dc16 pm16 an16 cd16 ct16), sl16⟩)
    (c16 : PySem.W.codeIn K cd16 "_law_is_below" = true)
    (k16 : PySem.W.keepIn K (.ref f16) = true)
    (a17 : PySem.W.nsIn K mainGlobals "_law_is_fine_move" = some (some (.ref f17)))
    (l17 : K.lookup f17 = some ⟨oc17, od17, .func (PySem.W.fnOf "_law_is_fine_move" "_law_is_fine_move" (defArgs s__law_is_fine_move) (defBody s__law_is_fine_move) (defScope s__law_is_fine_move) .none kV17 dc17 pm17 an17 cd17 ct17), sl17⟩)
    (c17 : PySem.W.codeIn K cd17 "_law_is_fine_move" = true)
    (k17 : PySem.W.keepIn K (.ref f17) = true)
    (a18 : PySem.W.nsIn K mainGlobals "_law_near_parts" = some (some (.ref f18)))
    (l18 : K.lookup f18 = some ⟨oc18, od18, .func (PySem.W.fnOf "_law_near_parts" "_law_near_parts" (defArgs s__law_near_parts) (defBody s__law_near_parts) (defScope s__law_near_parts) .none kV18 dc18 pm18 an18 cd18 ct18), sl18⟩)
    (c18 : PySem.W.codeIn K cd18 "_law_near_parts" = true)
    (k18 : PySem.W.keepIn K (.ref f18) = true)
    (a19 : PySem.W.nsIn K mainGlobals "_law_value_right" = some (some (.ref f19)))
    (l19 : K.lookup f19 = some ⟨oc19, od19, .func (PySem.W.fnOf "_law_value_right" "_law_value_right" (defArgs s__law_value_right) (defBody s__law_value_right) (defScope s__law_value_right) .none kV19 dc19 pm19 an19 cd19 ct19), sl19⟩)
    (c19 : PySem.W.codeIn K cd19 "_law_value_right" = true)
    (k19 : PySem.W.keepIn K (.ref f19) = true)
    (a20 : PySem.W.nsIn K mainGlobals "_law_cell_right" = some (some (.ref f20)))
    (l20 : K.lookup f20 = some ⟨oc20, od20, .func (PySem.W.fnOf "_law_cell_right" "_law_cell_right" (defArgs s__law_cell_right) (defBody s__law_cell_right) (defScope s__law_cell_right) .none kV20 dc20 pm20 an20 cd20 ct20), sl20⟩)
    (c20 : PySem.W.codeIn K cd20 "_law_cell_right" = true)
    (k20 : PySem.W.keepIn K (.ref f20) = true)
    (a21 : PySem.W.nsIn K mainGlobals "law" = some (some (.ref f21)))
    (l21 : K.lookup f21 = some ⟨oc21, od21, .func (PySem.W.fnOf "law" "law" (defArgs s_law) (defBody s_law) (defScope s_law) .none kV21 dc21 pm21 an21 cd21 ct21), sl21⟩)
    (c21 : PySem.W.codeIn K cd21 "law" = true)
    (k21 : PySem.W.keepIn K (.ref f21) = true)
    (a22 : PySem.W.nsIn K mainGlobals "_law_is_taken" = some (some (.ref f22)))
    (l22 : K.lookup f22 = some ⟨oc22, od22, .func (PySem.W.fnOf "_law_is_taken" "_law_is_taken" (defArgs s__law_is_taken) (defBody s__law_is_taken) (defScope s__law_is_taken) .none kV22 dc22 pm22 an22 cd22 ct22), sl22⟩)
    (c22 : PySem.W.codeIn K cd22 "_law_is_taken" = true)
    (k22 : PySem.W.keepIn K (.ref f22) = true)
    (b_abs : PySem.W.nsIn K mainGlobals "abs" = some none)
    (b_all : PySem.W.nsIn K mainGlobals "all" = some none)
    (b_bool : PySem.W.nsIn K mainGlobals "bool" = some none)
    (b_int : PySem.W.nsIn K mainGlobals "int" = some none)
    (b_isinstance : PySem.W.nsIn K mainGlobals "isinstance" = some none)
    (b_len : PySem.W.nsIn K mainGlobals "len" = some none)
    (b_list : PySem.W.nsIn K mainGlobals "list" = some none)
    (b_max : PySem.W.nsIn K mainGlobals "max" = some none)
    (b_min : PySem.W.nsIn K mainGlobals "min" = some none)
    (b_range : PySem.W.nsIn K mainGlobals "range" = some none)
    (b_repr : PySem.W.nsIn K mainGlobals "repr" = some none)
    (b_str : PySem.W.nsIn K mainGlobals "str" = some none)
    (b_tuple : PySem.W.nsIn K mainGlobals "tuple" = some none)
    (v_ACTS : PySem.W.nsIn K mainGlobals "ACTS" = some (some (.ref u_ACTS)))
    (w_ACTS : K.lookup u_ACTS = some ⟨.type "tuple", od_ACTS, .seq i_ACTS n_ACTS, sl_ACTS⟩)
    (x_ACTS : (i_ACTS.size ≤ sizeLine) ∧ ∃ vs, Vals vs i_ACTS.toList ∧ ∀ μ Hf, RepAll K μ Hf vs k_ACTS)
    (v_KEEPINGS : PySem.W.nsIn K mainGlobals "KEEPINGS" = some (some (.ref u_KEEPINGS)))
    (w_KEEPINGS : K.lookup u_KEEPINGS = some ⟨.type "tuple", od_KEEPINGS, .seq i_KEEPINGS n_KEEPINGS, sl_KEEPINGS⟩)
    (x_KEEPINGS : (i_KEEPINGS.size ≤ sizeLine) ∧ ∃ vs, Vals vs i_KEEPINGS.toList ∧ ∀ μ Hf, RepAll K μ Hf vs k_KEEPINGS)
    (v_MAX_LETTERS : PySem.W.nsIn K mainGlobals "MAX_LETTERS" = some (some (.int 8 t_MAX_LETTERS)))
    (v_MAX_MOVES : PySem.W.nsIn K mainGlobals "MAX_MOVES" = some (some (.int 6 t_MAX_MOVES)))
    (v_MAX_PRICE : PySem.W.nsIn K mainGlobals "MAX_PRICE" = some (some (.int 9 t_MAX_PRICE)))
    (v_MAX_STATES : PySem.W.nsIn K mainGlobals "MAX_STATES" = some (some (.int 6 t_MAX_STATES)))
    (zgM : PySem.W.nsIn K mainGlobals "Machine" = some (some (.ref cM)))
    (zgX : PySem.W.nsIn K mainGlobals "InvalidMachine" = some (some (.ref cX)))
    (zpg : PySem.W.plainGet K cM Str.empty = true)
    (zhd : PySem.W.hasDictIn K cM = true)
    (zpo : PySem.W.plainOver K cM = true)
    (zsa : PySem.W.findIn K (.ref cM) "__setattr__" = some (some (.builtin "object.__setattr__")))
    (zna : PySem.W.findIn K (.ref cM) "_states" = some none)
    (zmk : PySem.W.makesIn K cM = true)
    (zi : PySem.W.findIn K (.ref cM) "__init__" = some (some (.ref fI)))
    (zif : PySem.W.isFn K (.ref fI) = true)
    (zkc : PySem.W.keepIn K (.ref cM) = true)
    (zxX : PySem.W.excIn K cX baseV "ValueError.__new__" = true)
    (zkX : PySem.W.keepIn K (.ref cX) = true)
    (zbX : PySem.W.subIn K (.ref cX) (.type "BaseException") = some true)
    (ztX : PySem.W.typeIn K (.ref cX) = some (.type "type"))
    (ziX : PySem.W.isClsIn K cX = true)
    (zsX : PySem.W.subIn K (.ref cX) (.ref cX) = some true)
    (zrd : PySem.W.readsIn K cM (.type "type") = true)
    (zga : PySem.W.specialIn K (.ref cM) "__getattribute__" = some (some (.builtin "type.__getattribute__")))
    (zat : PySem.W.findCls K (.ref cM) (.type "type") "of" = some (.get (.builtin "classmethod.__get__") (.ref pO) .none (.ref cM)))
    (zrc : PySem.W.recIn K pO "classmethod" = some (.ref fO :: rest1))
    (zfo : PySem.W.fnIn K fO = true)
    (zpa : PySem.W.findIn K (.ref cM) "states" = some (some (.ref pS)))
    (zpq : PySem.W.specialIn K (.ref pS) "__get__" = some (some (.builtin "property.__get__")))
    (zpt : PySem.W.takesIn K (.ref pS) = some true)
    (zpr : PySem.W.recIn K pS "property" = some (.ref fS :: rest2))
    (lI : K.lookup fI = some ⟨ocI, odI, .func (PySem.W.fnOf "__init__" "Machine.__init__" (defArgs sI) (defBody sI) (defScope sI) .none kVI dcI pmI anI cdI ctI), slI⟩)
    (cI : PySem.W.codeIn K cdI "Machine.__init__" = true)
    (kI : PySem.W.keepIn K (.ref fI) = true)
    (lO : K.lookup fO = some ⟨ocO, odO, .func (PySem.W.fnOf "of" "Machine.of" (defArgs sO) (defBody sO) (defScope sO) .none kVO dcO pmO anO cdO ctO), slO⟩)
    (cO : PySem.W.codeIn K cdO "Machine.of" = true)
    (kO : PySem.W.keepIn K (.ref fO) = true)
    (lS : K.lookup fS = some ⟨ocS, odS, .func (PySem.W.fnOf "states" "Machine.states" (defArgs sS) (defBody sS) (defScope sS) .none kVS dcS pmS anS cdS ctS), slS⟩)
    (cS : PySem.W.codeIn K cdS "Machine.states" = true)
    (kS : PySem.W.keepIn K (.ref fS) = true)
    : ∃ fd : FuncData, (∀ (s : Shared) (u : Value), BindsTo s fd ⟨[u], []⟩ [("_law_script", u)]) ∧ ∀ (base : Heap) (ns : List Int), ns.length ≤ 63 → K.In base → base.Ns mainGlobals mg → ∃ g M', FnG l.prog w K mg base CX0 13 fa fd ["_law_script"] g ∧ g [.scr (ns.map D.int)] [] = .ok (.bl true) M' := by
  have e := hfa.symm.trans (PySem.W.mg_of X G a21)
  cases e
  have F0 := fun_mk (st := s_is_integer) l0 c0 k0
  have B0 := F0.binds (ps := ["value"]) fun _ _ _ _ _ _ us hl => match us, hl with | [_], _ => rfl
  have F1 := fun_mk (st := s_is_below) l1 c1 k1
  have B1 := F1.binds (ps := ["value", "limit"]) fun _ _ _ _ _ _ us hl => match us, hl with | [_, _], _ => rfl
  have F2 := fun_mk (st := s_is_word) l2 c2 k2
  have B2 := F2.binds (ps := ["value"]) fun _ _ _ _ _ _ us hl => match us, hl with | [_], _ => rfl
  have F3 := fun_mk (st := s_is_price) l3 c3 k3
  have B3 := F3.binds (ps := ["value"]) fun _ _ _ _ _ _ us hl => match us, hl with | [_], _ => rfl
  have F4 := fun_mk (st := s__can_have_kind) l4 c4 k4
  have B4 := F4.binds (ps := ["act", "kind"]) fun _ _ _ _ _ _ us hl => match us, hl with | [_, _], _ => rfl
  have F5 := fun_mk (st := s_can_have_keeping) l5 c5 k5
  have B5 := F5.binds (ps := ["act", "keeping"]) fun _ _ _ _ _ _ us hl => match us, hl with | [_, _], _ => rfl
  have F6 := fun_mk (st := s_is_move) l6 c6 k6
  have B6 := F6.binds (ps := ["value"]) fun _ _ _ _ _ _ us hl => match us, hl with | [_], _ => rfl
  have F7 := fun_mk (st := s__is_state) l7 c7 k7
  have B7 := F7.binds (ps := ["value", "many"]) fun _ _ _ _ _ _ us hl => match us, hl with | [_, _], _ => rfl
  have F8 := fun_mk (st := s__are_states) l8 c8 k8
  have B8 := F8.binds (ps := ["value"]) fun _ _ _ _ _ _ us hl => match us, hl with | [_], _ => rfl
  have F9 := fun_mk (st := s__law_stock) l9 c9 k9
  have B9 := F9.binds (ps := ["_law_script", "_law_at"]) fun _ _ _ _ _ _ us hl => match us, hl with | [_, _], _ => rfl
  have F10 := fun_mk (st := s__law_draw) l10 c10 k10
  have B10 := F10.binds (ps := ["_law_stock_here", "_law_total"]) fun _ _ _ _ _ _ us hl => match us, hl with | [_, _], _ => rfl
  have F11 := fun_mk (st := s__law_pick) l11 c11 k11
  have B11 := F11.binds (ps := ["_law_stock_here", "_law_items"]) fun _ _ _ _ _ _ us hl => match us, hl with | [_, _], _ => rfl
  have F12 := fun_mk (st := s__law_shuffled) l12 c12 k12
  have B12 := F12.binds (ps := ["_law_stock_here", "_law_items"]) fun _ _ _ _ _ _ us hl => match us, hl with | [_, _], _ => rfl
  have F13 := fun_mk (st := s__law_letter) l13 c13 k13
  have B13 := F13.binds (ps := ["_law_stock_here"]) fun _ _ _ _ _ _ us hl => match us, hl with | [_], _ => rfl
  have F14 := fun_mk (st := s__law_many_words) l14 c14 k14
  have B14 := F14.binds (ps := ["_law_stock_here", "_law_much"]) fun _ _ _ _ _ _ us hl => match us, hl with | [_, _], _ => rfl
  have F15 := fun_mk (st := s__law_spelled) l15 c15 k15
  have B15 := F15.binds (ps := ["_law_value"]) fun _ _ _ _ _ _ us hl => match us, hl with | [_], _ => rfl
  have F16 := fun_mk (st := s__law_is_below) l16 c16 k16
  have B16 := F16.binds (ps := ["_law_value", "_law_most"]) fun _ _ _ _ _ _ us hl => match us, hl with | [_, _], _ => rfl
  have F17 := fun_mk (st := s__law_is_fine_move) l17 c17 k17
  have B17 := F17.binds (ps := ["_law_value", "_law_size"]) fun _ _ _ _ _ _ us hl => match us, hl with | [_, _], _ => rfl
  have F18 := fun_mk (st := s__law_near_parts) l18 c18 k18
  have B18 := F18.binds (ps := ["_law_stock_here", "_law_words"]) fun _ _ _ _ _ _ us hl => match us, hl with | [_, _], _ => rfl
  have F19 := fun_mk (st := s__law_value_right) l19 c19 k19
  have B19 := F19.binds (ps := ["_law_value"]) fun _ _ _ _ _ _ us hl => match us, hl with | [_], _ => rfl
  have F20 := fun_mk (st := s__law_cell_right) l20 c20 k20
  have B20 := F20.binds (ps := ["_law_stock_here"]) fun _ _ _ _ _ _ us hl => match us, hl with | [_], _ => rfl
  have F21 := fun_mk (st := s_law) l21 c21 k21
  have F22 := fun_mk (st := s__law_is_taken) l22 c22 k22
  have B22 := F22.binds (ps := ["_law_value"]) fun _ _ _ _ _ _ us hl => match us, hl with | [_], _ => rfl
  have TX : Txt K mg  := ⟨PySem.W.mg_none_of X G b_abs,
    PySem.W.mg_none_of X G b_all,
    PySem.W.mg_none_of X G b_bool,
    PySem.W.mg_none_of X G b_int,
    PySem.W.mg_none_of X G b_isinstance,
    PySem.W.mg_none_of X G b_len,
    PySem.W.mg_none_of X G b_list,
    PySem.W.mg_none_of X G b_max,
    PySem.W.mg_none_of X G b_min,
    PySem.W.mg_none_of X G b_range,
    PySem.W.mg_none_of X G b_repr,
    PySem.W.mg_none_of X G b_str,
    PySem.W.mg_none_of X G b_tuple,
    ⟨_, PySem.W.mg_of X G v_ACTS, by obtain ⟨z, vs, r, k⟩ := x_ACTS; exact ktup_of w_ACTS rfl rfl z r k⟩,
    ⟨_, PySem.W.mg_of X G v_KEEPINGS, by obtain ⟨z, vs, r, k⟩ := x_KEEPINGS; exact ktup_of w_KEEPINGS rfl rfl z r k⟩,
    ⟨_, PySem.W.mg_of X G v_MAX_LETTERS⟩,
    ⟨_, PySem.W.mg_of X G v_MAX_MOVES⟩,
    ⟨_, PySem.W.mg_of X G v_MAX_PRICE⟩,
    ⟨_, PySem.W.mg_of X G v_MAX_STATES⟩⟩
  refine ⟨PySem.W.fnOf "law" "law" (defArgs s_law) (defBody s_law) (defScope s_law) .none kV21 dc21 pm21 an21 cd21 ct21, fun s v => .of_eq rfl, fun base ns hl X1 G1 => ?_⟩
  have OX : Objs K mg cM cX fI fO fS pO pS (.type "type") := ⟨⟨zpg, zhd, zpo, zsa⟩, zna, ⟨zmk, zi, zif, zkc⟩, PySem.W.mg_of X G zgM, PySem.W.mg_of X G zgX, zxX, zkX, zbX, ztX, exm_own zbX ziX ztX zsX, ⟨zrd, zga⟩, ⟨zat, ⟨_, zrc⟩, zfo⟩, ⟨zpa, zpq, zpt, ⟨_, zpr⟩⟩⟩
  have FI := fun_mk (st := sI) lI cI kI
  have FO := fun_mk (st := sO) lO cO kO
  have FS := fun_mk (st := sS) lS cS kS
  have BO := FO.binds (ps := ["cls", "states"]) fun _ _ _ _ _ _ us hl => match us, hl with | [_, _], _ => rfl
  have BS := FS.binds (ps := ["self"]) fun _ _ _ _ _ _ us hl => match us, hl with | [_], _ => rfl
  have G0 : FnOk l.prog w K mg base CX0 1 f0 _ ["value"] (spD K 1 (g_is_integer)) := ok_is_integer F0 TX
  have K0 : Cal0 l.prog w K mg base 1 "is_integer" 1 (g_is_integer) := ⟨⟨_, _, _, PySem.W.mg_of X G a0, k0, B0, rfl, G0⟩⟩
  have G2 : FnOk l.prog w K mg base CX0 1 f2 _ ["value"] (spD K 1 (g_is_word)) := ok_is_word F2 TX
  have K2 : Cal0 l.prog w K mg base 1 "is_word" 1 (g_is_word) := ⟨⟨_, _, _, PySem.W.mg_of X G a2, k2, B2, rfl, G2⟩⟩
  have G5 : FnOk l.prog w K mg base CX0 1 f5 _ ["act", "keeping"] (spD K 2 (g_can_have_keeping)) := ok_can_have_keeping F5 TX
  have K5 : Cal0 l.prog w K mg base 1 "can_have_keeping" 2 (g_can_have_keeping) := ⟨⟨_, _, _, PySem.W.mg_of X G a5, k5, B5, rfl, G5⟩⟩
  have G9 : FnG l.prog w K mg base CX0 1 f9 _ ["_law_script", "_law_at"] (g__law_stock) := ok__law_stock F9 TX
  have K9 : CalG l.prog w K mg base 1 "_law_stock" 2 (g__law_stock) := ⟨⟨_, _, _, PySem.W.mg_of X G a9, k9, B9, rfl, G9⟩⟩
  have G10 : FnG l.prog w K mg base CX0 1 f10 _ ["_law_stock_here", "_law_total"] (g__law_draw) := ok__law_draw F10 TX
  have K10 : CalG l.prog w K mg base 1 "_law_draw" 2 (g__law_draw) := ⟨⟨_, _, _, PySem.W.mg_of X G a10, k10, B10, rfl, G10⟩⟩
  have G15 : FnG l.prog w K mg base CX0 1 f15 _ ["_law_value"] (g__law_spelled) := ok__law_spelled F15 TX
  have K15 : CalG l.prog w K mg base 1 "_law_spelled" 1 (g__law_spelled) := ⟨⟨_, _, _, PySem.W.mg_of X G a15, k15, B15, rfl, G15⟩⟩
  have G16 : FnG l.prog w K mg base CX0 1 f16 _ ["_law_value", "_law_most"] (g__law_is_below) := ok__law_is_below F16 TX
  have K16 : CalG l.prog w K mg base 1 "_law_is_below" 2 (g__law_is_below) := ⟨⟨_, _, _, PySem.W.mg_of X G a16, k16, B16, rfl, G16⟩⟩
  have G18 : FnG l.prog w K mg base CX0 1 f18 _ ["_law_stock_here", "_law_words"] (g__law_near_parts) := ok__law_near_parts F18 TX
  have K18 : CalG l.prog w K mg base 1 "_law_near_parts" 2 (g__law_near_parts) := ⟨⟨_, _, _, PySem.W.mg_of X G a18, k18, B18, rfl, G18⟩⟩
  have G1 : FnOk l.prog w K mg base CX0 2 f1 _ ["value", "limit"] (spD K 2 (g_is_below)) := ok_is_below F1 TX K0
  have K1 : Cal0 l.prog w K mg base 2 "is_below" 2 (g_is_below) := ⟨⟨_, _, _, PySem.W.mg_of X G a1, k1, B1, rfl, G1⟩⟩
  have G4 : FnOk l.prog w K mg base CX0 2 f4 _ ["act", "kind"] (spD K 2 (g__can_have_kind)) := ok__can_have_kind F4 TX K2
  have K4 : Cal0 l.prog w K mg base 2 "_can_have_kind" 2 (g__can_have_kind) := ⟨⟨_, _, _, PySem.W.mg_of X G a4, k4, B4, rfl, G4⟩⟩
  have G11 : FnG l.prog w K mg base CX0 2 f11 _ ["_law_stock_here", "_law_items"] (g__law_pick) := ok__law_pick F11 TX K10
  have K11 : CalG l.prog w K mg base 2 "_law_pick" 2 (g__law_pick) := ⟨⟨_, _, _, PySem.W.mg_of X G a11, k11, B11, rfl, G11⟩⟩
  have G12 : FnG l.prog w K mg base CX0 2 f12 _ ["_law_stock_here", "_law_items"] (g__law_shuffled) := ok__law_shuffled F12 TX K10
  have K12 : CalG l.prog w K mg base 2 "_law_shuffled" 2 (g__law_shuffled) := ⟨⟨_, _, _, PySem.W.mg_of X G a12, k12, B12, rfl, G12⟩⟩
  have G13 : FnG l.prog w K mg base CX0 2 f13 _ ["_law_stock_here"] (g__law_letter) := ok__law_letter F13 TX K10
  have K13 : CalG l.prog w K mg base 2 "_law_letter" 1 (g__law_letter) := ⟨⟨_, _, _, PySem.W.mg_of X G a13, k13, B13, rfl, G13⟩⟩
  have G17 : FnG l.prog w K mg base CX0 2 f17 _ ["_law_value", "_law_size"] (g__law_is_fine_move) := ok__law_is_fine_move F17 TX K16 K15
  have K17 : CalG l.prog w K mg base 2 "_law_is_fine_move" 2 (g__law_is_fine_move) := ⟨⟨_, _, _, PySem.W.mg_of X G a17, k17, B17, rfl, G17⟩⟩
  have G3 : FnOk l.prog w K mg base CX0 3 f3 _ ["value"] (spD K 1 (g_is_price)) := ok_is_price F3 TX K1
  have K3 : Cal0 l.prog w K mg base 3 "is_price" 1 (g_is_price) := ⟨⟨_, _, _, PySem.W.mg_of X G a3, k3, B3, rfl, G3⟩⟩
  have G14 : FnG l.prog w K mg base CX0 3 f14 _ ["_law_stock_here", "_law_much"] (g__law_many_words) := ok__law_many_words F14 TX K10 K13 K12
  have K14 : CalG l.prog w K mg base 3 "_law_many_words" 2 (g__law_many_words) := ⟨⟨_, _, _, PySem.W.mg_of X G a14, k14, B14, rfl, G14⟩⟩
  have G6 : FnOk l.prog w K mg base CX0 4 f6 _ ["value"] (spD K 1 (g_is_move)) := ok_is_move F6 TX K5 K4 K1 K3
  have K6 : Cal0 l.prog w K mg base 4 "is_move" 1 (g_is_move) := ⟨⟨_, _, _, PySem.W.mg_of X G a6, k6, B6, rfl, G6⟩⟩
  have G7 : FnOk l.prog w K mg base CX0 5 f7 _ ["value", "many"] (spD K 2 (g__is_state)) := ok__is_state F7 TX K6
  have K7 : Cal0 l.prog w K mg base 5 "_is_state" 2 (g__is_state) := ⟨⟨_, _, _, PySem.W.mg_of X G a7, k7, B7, rfl, G7⟩⟩
  have G8 : FnOk l.prog w K mg base CX0 6 f8 _ ["value"] (spD K 1 (g__are_states)) := ok__are_states F8 TX K7
  have K8 : Cal0 l.prog w K mg base 6 "_are_states" 1 (g__are_states) := ⟨⟨_, _, _, PySem.W.mg_of X G a8, k8, B8, rfl, G8⟩⟩
  have GI := ok_init (P := l.prog) (w := w) (base := base) FI TX OX K8
  have GO := ok_of FO TX OX GI
  have GS := ok_get (P := l.prog) (w := w) (mg := mg) (base := base) FS OX
  have G22 : FnG l.prog w K mg base CX0 10 f22 _ ["_law_value"] (g__law_is_taken cM cX) := ok__law_is_taken F22 TX OX GO BO GS BS
  have K22 : CalG l.prog w K mg base 10 "_law_is_taken" 1 (g__law_is_taken cM cX) := ⟨⟨_, _, _, PySem.W.mg_of X G a22, k22, B22, rfl, G22⟩⟩
  have G19 : FnG l.prog w K mg base CX0 11 f19 _ ["_law_value"] (g__law_value_right cM cX) := ok__law_value_right F19 TX K17 K22 K6
  have K19 : CalG l.prog w K mg base 11 "_law_value_right" 1 (g__law_value_right cM cX) := ⟨⟨_, _, _, PySem.W.mg_of X G a19, k19, B19, rfl, G19⟩⟩
  have G20 : FnG l.prog w K mg base CX0 12 f20 _ ["_law_stock_here"] (g__law_cell_right cM cX) := ok__law_cell_right F20 TX K10 K14 K18 K11 K12 K19
  have K20 : CalG l.prog w K mg base 12 "_law_cell_right" 1 (g__law_cell_right cM cX) := ⟨⟨_, _, _, PySem.W.mg_of X G a20, k20, B20, rfl, G20⟩⟩
  have G21 : FnG l.prog w K mg base CX0 13 fa _ ["_law_script"] (g_law cM cX) := ok_law F21 TX K20 K9
  obtain ⟨M1, e1⟩ := law_right  (ns := ns) hl
  exact ⟨_, M1, G21, e1⟩
end K05

open PySem PySem.W PyProof.Rows in
set_option maxRecDepth 100000 in
set_option maxHeartbeats 0 in
theorem PySem.Challenge.cw_fallsback_k05_whole_forms_of_moves_holds : PySem.Challenge.rw_fallsback_k05_whole_forms_of_moves.Holds := by
  w_on; o_law; k_head; (case hw => w_witness2)
  k_fill
  refine Den.walkG (n := 63) (k := 13) (x := "_law_script") (l := PySem.Challenge.rw_fallsback_k05_whole_forms_of_moves) rfl (by decide) rfl ⟨rfl, by decide, by decide⟩ (fun w h Y => PySem.W.kIn_of Y) ?F
  case F =>
    intro w mg fa h KX G hmg
    refine' K05.all_mk KX G hmg ?a0 ?l0 ?c0 ?k0 ?a1 ?l1 ?c1 ?k1 ?a2 ?l2 ?c2 ?k2 ?a3 ?l3 ?c3 ?k3 ?a4 ?l4 ?c4 ?k4 ?a5 ?l5 ?c5 ?k5 ?a6 ?l6 ?c6 ?k6 ?a7 ?l7 ?c7 ?k7 ?a8 ?l8 ?c8 ?k8 ?a9 ?l9 ?c9 ?k9 ?a10 ?l10 ?c10 ?k10 ?a11 ?l11 ?c11 ?k11 ?a12 ?l12 ?c12 ?k12 ?a13 ?l13 ?c13 ?k13 ?a14 ?l14 ?c14 ?k14 ?a15 ?l15 ?c15 ?k15 ?a16 ?l16 ?c16 ?k16 ?a17 ?l17 ?c17 ?k17 ?a18 ?l18 ?c18 ?k18 ?a19 ?l19 ?c19 ?k19 ?a20 ?l20 ?c20 ?k20 ?a21 ?l21 ?c21 ?k21 ?a22 ?l22 ?c22 ?k22 ?b_abs ?b_all ?b_bool ?b_int ?b_isinstance ?b_len ?b_list ?b_max ?b_min ?b_range ?b_repr ?b_str ?b_tuple ?v_ACTS ?w_ACTS ?x_ACTS ?v_KEEPINGS ?w_KEEPINGS ?x_KEEPINGS ?v_MAX_LETTERS ?v_MAX_MOVES ?v_MAX_PRICE ?v_MAX_STATES ?zgM ?zgX ?zpg ?zhd ?zpo ?zsa ?zna ?zmk ?zi ?zif ?zkc ?zxX ?zkX ?zbX ?ztX ?ziX ?zsX ?zrd ?zga ?zat ?zrc ?zfo ?zpa ?zpq ?zpt ?zpr ?lI ?cI ?kI ?lO ?cO ?kO ?lS ?cS ?kS
    (case a0 => k_is)
    (case l0 => k_is)
    (case c0 => k_is)
    (case k0 => k_is)
    (case a1 => k_is)
    (case l1 => k_is)
    (case c1 => k_is)
    (case k1 => k_is)
    (case a2 => k_is)
    (case l2 => k_is)
    (case c2 => k_is)
    (case k2 => k_is)
    (case a3 => k_is)
    (case l3 => k_is)
    (case c3 => k_is)
    (case k3 => k_is)
    (case a4 => k_is)
    (case l4 => k_is)
    (case c4 => k_is)
    (case k4 => k_is)
    (case a5 => k_is)
    (case l5 => k_is)
    (case c5 => k_is)
    (case k5 => k_is)
    (case a6 => k_is)
    (case l6 => k_is)
    (case c6 => k_is)
    (case k6 => k_is)
    (case a7 => k_is)
    (case l7 => k_is)
    (case c7 => k_is)
    (case k7 => k_is)
    (case a8 => k_is)
    (case l8 => k_is)
    (case c8 => k_is)
    (case k8 => k_is)
    (case a9 => k_is)
    (case l9 => k_is)
    (case c9 => k_is)
    (case k9 => k_is)
    (case a10 => k_is)
    (case l10 => k_is)
    (case c10 => k_is)
    (case k10 => k_is)
    (case a11 => k_is)
    (case l11 => k_is)
    (case c11 => k_is)
    (case k11 => k_is)
    (case a12 => k_is)
    (case l12 => k_is)
    (case c12 => k_is)
    (case k12 => k_is)
    (case a13 => k_is)
    (case l13 => k_is)
    (case c13 => k_is)
    (case k13 => k_is)
    (case a14 => k_is)
    (case l14 => k_is)
    (case c14 => k_is)
    (case k14 => k_is)
    (case a15 => k_is)
    (case l15 => k_is)
    (case c15 => k_is)
    (case k15 => k_is)
    (case a16 => k_is)
    (case l16 => k_is)
    (case c16 => k_is)
    (case k16 => k_is)
    (case a17 => k_is)
    (case l17 => k_is)
    (case c17 => k_is)
    (case k17 => k_is)
    (case a18 => k_is)
    (case l18 => k_is)
    (case c18 => k_is)
    (case k18 => k_is)
    (case a19 => k_is)
    (case l19 => k_is)
    (case c19 => k_is)
    (case k19 => k_is)
    (case a20 => k_is)
    (case l20 => k_is)
    (case c20 => k_is)
    (case k20 => k_is)
    (case a21 => k_is)
    (case l21 => k_is)
    (case c21 => k_is)
    (case k21 => k_is)
    (case a22 => k_is)
    (case l22 => k_is)
    (case c22 => k_is)
    (case k22 => k_is)
    (case b_abs => k_is)
    (case b_all => k_is)
    (case b_bool => k_is)
    (case b_int => k_is)
    (case b_isinstance => k_is)
    (case b_len => k_is)
    (case b_list => k_is)
    (case b_max => k_is)
    (case b_min => k_is)
    (case b_range => k_is)
    (case b_repr => k_is)
    (case b_str => k_is)
    (case b_tuple => k_is)
    (case v_ACTS => k_is)
    (case w_ACTS => k_is)
    (case x_ACTS => exact ⟨by decide, [L2.V.str "output", L2.V.str "send", L2.V.str "take", L2.V.str "work"], .cons ⟨_, rfl⟩ (.cons ⟨_, rfl⟩ (.cons ⟨_, rfl⟩ (.cons ⟨_, rfl⟩ (.nil)))), fun _ _ => .cons (.str _) (.cons (.str _) (.cons (.str _) (.cons (.str _) (.nil))))⟩)
    (case v_KEEPINGS => k_is)
    (case w_KEEPINGS => k_is)
    (case x_KEEPINGS => exact ⟨by decide, [L2.V.non, L2.V.str "note", L2.V.str "save"], .cons rfl (.cons ⟨_, rfl⟩ (.cons ⟨_, rfl⟩ (.nil))), fun _ _ => .cons (.non) (.cons (.str _) (.cons (.str _) (.nil)))⟩)
    (case v_MAX_LETTERS => k_is)
    (case v_MAX_MOVES => k_is)
    (case v_MAX_PRICE => k_is)
    (case v_MAX_STATES => k_is)
    (case zgM => k_is)
    (case zgX => k_is)
    (case zpg => k_is)
    (case zhd => k_is)
    (case zpo => k_is)
    (case zsa => k_is)
    (case zna => k_is)
    (case zmk => k_is)
    (case zi => k_is)
    (case zif => k_is)
    (case zkc => k_is)
    (case zxX => k_exc)
    (case zkX => k_is)
    (case zbX => k_is)
    (case ztX => k_is)
    (case ziX => k_is)
    (case zsX => first | rfl | k_is)
    (case zrd => k_is)
    (case zga => k_is)
    (case zat => k_is)
    (case zrc => k_is)
    (case zfo => k_is)
    (case zpa => k_is)
    (case zpq => k_is)
    (case zpt => k_is)
    (case zpr => k_is)
    (case lI => k_is)
    (case cI => k_is)
    (case kI => k_is)
    (case lO => k_is)
    (case cO => k_is)
    (case kO => k_is)
    (case lS => k_is)
    (case cS => k_is)
    (case kS => k_is)
#print axioms PySem.Challenge.cw_fallsback_k05_whole_forms_of_moves_holds
