import PyProof.Rows.All
import Wide.All
import OpenK.AllK
import Wide.FinOn
import HandS.ForMost
import HandS.CallLocal
import HandS.Flow
import HandS.IsInst
import HandS.Style
import HandS.Text
import HandS.TupAny
import HandS.Walk
import HandS.Wide
import KE.KDictList
import KE.KStrOpen
import PySem.Challenge.RW_fallsback_k02_whole_parts_of_words
set_option Elab.async false
set_option maxRecDepth 100000
set_option maxHeartbeats 4400000
/-! Den: what a piece of the text denotes as a plain Lean function over data. -/
namespace Den
open PySem PySem.Spec PyProof.Rows L2

/-! ### data -/
inductive D where
  | non | bl (b : Bool) | int (i : Int) | str (s : Str) | ty (n : String) | fn (a : Addr)
  | lst (xs : List D) | tup (xs : List D) | scr (xs : List D) | dct (ks : List L2.Key) (xs : List D) | loc (n : Nat)
/-- the lists that may still change; none: one that is now data -/
abbrev Mem := List (Option (List D))
abbrev Ro := List (Option D)
abbrev Kf := PySem.W.Frag

mutual
inductive Rep (K : Kf) (μ : List Addr) (H : Hp) : V → D → Prop
  | non : Rep K μ H .non .non
  | bl (b : Bool) : Rep K μ H (.bl b) (.bl b)
  | int (i : Int) : Rep K μ H (.int i) (.int i)
  | str (x : Str) : Rep K μ H (.str x) (.str x)
  | ty (n : String) : Rep K μ H (.ty n) (.ty n)
  | fn (a : Addr) : Rep K μ H (.ref a) (.fn a)
  | lst {a : Addr} {vs : List V} {ds : List D} : H a = some (.lst vs) → RepAll K μ H vs ds → Rep K μ H (.ref a) (.lst ds)
  | scr {a : Addr} {vs : List V} {ds : List D} : SqL K H a vs → RepAll K μ H vs ds → Rep K μ H (.ref a) (.scr ds)
  | dct {a : Addr} {kvs : List (L2.Key × V)} {ks : List L2.Key} {ds : List D} : H a = some (.dK kvs) → kvs.map Prod.fst = ks → RepAll K μ H (kvs.map Prod.snd) ds → Rep K μ H (.ref a) (.dct ks ds)
  | tup {a : Addr} {vs : List V} {ds : List D} : SqT K H a vs → RepAll K μ H vs ds → Rep K μ H (.ref a) (.tup ds)
  | loc {a : Addr} {n : Nat} : μ[n]? = some a → Rep K μ H (.ref a) (.loc n)
inductive RepAll (K : Kf) (μ : List Addr) (H : Hp) : List V → List D → Prop
  | nil : RepAll K μ H [] []
  | cons {v : V} {vs : List V} {d : D} {ds : List D} : Rep K μ H v d → RepAll K μ H vs ds → RepAll K μ H (v :: vs) (d :: ds)
end

theorem same_rd {H H' : Hp} {a : Addr} {u : HO} (e : Same H H') (h : Rd H a u) : Rd H' a u :=
  h.elim (fun q => .inl (e _ _ q)) fun ⟨o, q⟩ => .inr ⟨o, e _ _ q⟩
theorem same_l {K : Kf} {H H' : Hp} {a : Addr} {xs : List V} (e : Same H H') (h : SqL K H a xs) : SqL K H' a xs :=
  h.elim (fun q => .inl (same_rd e q)) fun q => .inr q
theorem same_t {K : Kf} {H H' : Hp} {a : Addr} {xs : List V} (e : Same H H') (h : SqT K H a xs) : SqT K H' a xs :=
  h.elim (fun q => .inl (same_rd e q)) fun q => .inr q
theorem pre_at {μ μ' : List Addr} (m : μ <+: μ') {n : Nat} {a : Addr} (h : μ[n]? = some a) : μ'[n]? = some a := by
  obtain ⟨t, rfl⟩ := m
  have hn := (List.getElem?_eq_some_iff.mp h).1
  rw [List.getElem?_append_left hn]
  exact h

mutual
theorem Rep.mono {K : Kf} {μ μ' : List Addr} {H H' : Hp} (e : Same H H') (m : μ <+: μ') : ∀ (d : D) (v : V), Rep K μ H v d → Rep K μ' H' v d
  | .non, _, h => by cases h; exact .non
  | .bl _, _, h => by cases h; exact .bl _
  | .int _, _, h => by cases h; exact .int _
  | .str _, _, h => by cases h; exact .str _
  | .ty _, _, h => by cases h; exact .ty _
  | .fn _, _, h => by cases h; exact .fn _
  | .lst ds, _, h => by
    cases h with
    | lst s r => exact .lst (e _ _ s) (RepAll.mono e m ds _ r)
  | .scr ds, _, h => by
    cases h with
    | scr s r => exact .scr (same_l e s) (RepAll.mono e m ds _ r)
  | .dct ks ds, _, h => by
    cases h with
    | dct s k r => exact .dct (e _ _ s) k (RepAll.mono e m ds _ r)
  | .tup ds, _, h => by
    cases h with
    | tup s r => exact .tup (same_t e s) (RepAll.mono e m ds _ r)
  | .loc n, _, h => by
    cases h with
    | loc q => exact .loc (pre_at m q)
theorem RepAll.mono {K : Kf} {μ μ' : List Addr} {H H' : Hp} (e : Same H H') (m : μ <+: μ') : ∀ (ds : List D) (vs : List V), RepAll K μ H vs ds → RepAll K μ' H' vs ds
  | [], _, h => by cases h; exact .nil
  | d :: ds, _, h => by
    cases h with
    | cons r t => exact .cons (Rep.mono e m d _ r) (RepAll.mono e m ds _ t)
end
section
variable {K : Kf} {μ : List Addr} {H : Hp}
theorem RepAll.length : ∀ {vs : List V} {ds : List D}, RepAll K μ H vs ds → vs.length = ds.length
  | _, _, .nil => rfl
  | _, _, .cons _ t => congrArg Nat.succ t.length
theorem RepAll.at : ∀ {vs : List V} {ds : List D} {i : Nat} {d : D}, RepAll K μ H vs ds → ds[i]? = some d → ∃ v, vs[i]? = some v ∧ Rep K μ H v d
  | _, _, _, _, .nil, e => by simp at e
  | _, _, 0, _, .cons r _, e => ⟨_, rfl, by simp at e; subst e; exact r⟩
  | _, _, i + 1, _, .cons _ t, e => by
    obtain ⟨v, h1, h2⟩ := RepAll.at (i := i) t (by simpa using e)
    exact ⟨v, by simpa using h1, h2⟩
theorem RepAll.atV : ∀ {vs : List V} {ds : List D} {i : Nat} {v : V}, RepAll K μ H vs ds → vs[i]? = some v → ∃ d, ds[i]? = some d ∧ Rep K μ H v d
  | _, _, _, _, .nil, e => by simp at e
  | _, _, 0, _, .cons r _, e => ⟨_, rfl, by simp at e; subst e; exact r⟩
  | _, _, i + 1, _, .cons _ t, e => by
    obtain ⟨v, h1, h2⟩ := RepAll.atV (i := i) t (by simpa using e)
    exact ⟨v, by simpa using h1, h2⟩
theorem RepAll.app : ∀ {vs ws : List V} {ds es : List D}, RepAll K μ H vs ds → RepAll K μ H ws es → RepAll K μ H (vs ++ ws) (ds ++ es)
  | _, _, _, _, .nil, s => s
  | _, _, _, _, .cons r t, s => .cons r (t.app s)
theorem RepAll.take : ∀ {vs : List V} {ds : List D} (n : Nat), RepAll K μ H vs ds → RepAll K μ H (vs.take n) (ds.take n)
  | _, _, 0, _ => .nil
  | _, _, _ + 1, .nil => .nil
  | _, _, n + 1, .cons r t => .cons r (t.take n)
theorem RepAll.drop : ∀ {vs : List V} {ds : List D} (n : Nat), RepAll K μ H vs ds → RepAll K μ H (vs.drop n) (ds.drop n)
  | _, _, 0, r => r
  | _, _, _ + 1, .nil => .nil
  | _, _, n + 1, .cons _ t => t.drop n
theorem RepAll.set : ∀ {vs : List V} {ds : List D} {v : V} {d : D} (i : Nat), RepAll K μ H vs ds → Rep K μ H v d → RepAll K μ H (vs.set i v) (ds.set i d)
  | _, _, _, _, _, .nil, _ => .nil
  | _, _, _, _, 0, .cons _ t, q => .cons q t
  | _, _, _, _, i + 1, .cons r t, q => .cons r (t.set i q)
theorem RepAll.erase : ∀ {vs : List V} {ds : List D} (i : Nat), RepAll K μ H vs ds → RepAll K μ H (vs.eraseIdx i) (ds.eraseIdx i)
  | _, _, _, .nil => .nil
  | _, _, 0, .cons _ t => t
  | _, _, i + 1, .cons r t => .cons r (t.erase i)
theorem RepAll.rev {vs : List V} {ds : List D} (h : RepAll K μ H vs ds) : RepAll K μ H vs.reverse ds.reverse := by
  induction vs generalizing ds with
  | nil => cases h; exact .nil
  | cons v vs ih =>
    cases h with
    | cons r t =>
      rw [List.reverse_cons, List.reverse_cons]
      exact (ih t).app (.cons r .nil)
theorem RepAll.ints : ∀ {vs : List V} {ns : List Int}, RepAll K μ H vs (ns.map D.int) → vs = ns.map V.int
  | _, [], h => by cases h; rfl
  | _, n :: ns, h => by
    cases h with
    | cons r t => cases r; rw [List.map_cons, ← RepAll.ints t]
theorem RepAll.strs : ∀ {vs : List V} {ns : List Str}, RepAll K μ H vs (ns.map D.str) → vs = ns.map V.str
  | _, [], h => by cases h; rfl
  | _, n :: ns, h => by
    cases h with
    | cons r t => cases r; rw [List.map_cons, ← RepAll.strs t]
theorem RepAll.bls : ∀ {vs : List V} {ns : List Bool}, RepAll K μ H vs (ns.map D.bl) → vs = ns.map V.bl
  | _, [], h => by cases h; rfl
  | _, n :: ns, h => by
    cases h with
    | cons r t => cases r; rw [List.map_cons, ← RepAll.bls t]
end

/-! ### states -/
structure SR (K : Kf) (μ : List Addr) (Hf Fr H : Hp) (M : Mem) : Prop where
  ex : Same Hf H
  fr : Same Fr H
  dis : ∀ a o, Fr a = some o → Hf a = none
  len : μ.length = M.length
  nd : μ.Nodup
  cell : ∀ (n : Nat) (ds : List D), M[n]? = some (some ds) → ∃ a vs, μ[n]? = some a ∧ Hf a = none ∧ Fr a = none ∧ H a = some (.lst vs) ∧ RepAll K μ Hf vs ds
  old : ∀ a, a ∈ μ → ∃ o, H a = some o
structure ERep (K : Kf) (μ : List Addr) (H : Hp) (σ : L2.St) (ρ : Ro) : Prop where
  len : σ.length = ρ.length
  slot : ∀ (i : Nat) (d : D), ρ[i]? = some (some d) → ∃ v, σ[i]? = some (some v) ∧ Rep K μ H v d
section
variable {K : Kf} {μ μ' : List Addr} {H H' Hf Hf' Fr : Hp} {σ : L2.St} {ρ : Ro} {M : Mem}
theorem ERep.mono (r : ERep K μ H σ ρ) (e : Same H H') (m : μ <+: μ') : ERep K μ' H' σ ρ :=
  ⟨r.len, fun i d q => let ⟨v, h1, h2⟩ := r.slot i d q; ⟨v, h1, h2.mono e m⟩⟩
theorem ERep.put (r : ERep K μ H σ ρ) {v : V} {d : D} (i : Nat) (q : Rep K μ H v d) : ERep K μ H (σ.set i (some v)) (ρ.set i (some d)) := by
  refine ⟨by rw [List.length_set, List.length_set]; exact r.len, fun j d' e => ?_⟩
  by_cases hj : i = j
  · subst hj
    have hi : i < ρ.length := by
      have := (List.getElem?_eq_some_iff.mp e).1
      rwa [List.length_set] at this
    rw [List.getElem?_set_self hi] at e
    cases e
    exact ⟨v, by rw [List.getElem?_set_self (by rw [r.len]; exact hi)], q⟩
  · rw [List.getElem?_set_ne hj] at e
    obtain ⟨w, h1, h2⟩ := r.slot j d' e
    exact ⟨w, by rw [List.getElem?_set_ne hj]; exact h1, h2⟩
def wipeD (ρ : Ro) : List Nat → Ro
  | [] => ρ
  | v :: vs => (wipeD ρ vs).set v none
theorem ERep.wipe (r : ERep K μ H σ ρ) : ∀ vs : List Nat, ERep K μ H (L2.wipe σ vs) (wipeD ρ vs)
  | [] => r
  | v :: vs => by
    have ih := r.wipe vs
    refine ⟨by show ((L2.wipe σ vs).set v none).length = ((wipeD ρ vs).set v none).length; rw [List.length_set, List.length_set]; exact ih.len, fun j d' e => ?_⟩
    have e : ((wipeD ρ vs).set v none)[j]? = some (some d') := e
    by_cases hj : v = j
    · subst hj
      by_cases hv : v < (wipeD ρ vs).length
      · rw [List.getElem?_set_self hv] at e; cases e
      · rw [List.getElem?_eq_none (by rw [List.length_set]; omega)] at e; cases e
    · rw [List.getElem?_set_ne hj] at e
      obtain ⟨w, h1, h2⟩ := ih.slot j d' e
      refine ⟨w, ?_, h2⟩
      show ((L2.wipe σ vs).set v none)[j]? = _
      rw [List.getElem?_set_ne hj]; exact h1
/-- a new object that becomes data -/
theorem SR.froz {p : Addr} {o : HO} (s : SR K μ Hf Fr H M) (hp : H p = none) : SR K μ (upd Hf p o) Fr (upd H p o) M ∧ Same Hf (upd Hf p o) := by
  have hf : Hf p = none := s.ex.free hp
  have hr : Fr p = none := s.fr.free hp
  have hs : Same Hf (upd Hf p o) := fun b u e => by rw [upd_ne (ne_of_none e hf)]; exact e
  refine ⟨⟨fun b u e => ?_, fun b u e => ?_, fun b u e => ?_, s.len, s.nd, fun n ds e => ?_, fun b hb => ?_⟩, hs⟩
  · by_cases hb : b = p
    · subst hb; rw [upd_same] at e ⊢; exact e
    · rw [upd_ne hb] at e ⊢; exact s.ex b u e
  · rw [upd_ne (ne_of_none e hr)]; exact s.fr b u e
  · rw [upd_ne (ne_of_none e hr)]; exact s.dis b u e
  · obtain ⟨a, vs, h1, h2, h3, h4, h5⟩ := s.cell n ds e
    have ha : a ≠ p := ne_of_none h4 hp
    exact ⟨a, vs, h1, by rw [upd_ne ha]; exact h2, h3, by rw [upd_ne ha]; exact h4, h5.mono hs (List.prefix_refl _)⟩
  · obtain ⟨u, q⟩ := s.old b hb
    exact ⟨u, by rw [upd_ne (ne_of_none q hp)]; exact q⟩
/-- a new list that may still change -/
theorem SR.grow {p : Addr} {vs : List V} {ds : List D} (s : SR K μ Hf Fr H M) (hp : H p = none) (r : RepAll K μ Hf vs ds) :
    SR K (μ ++ [p]) Hf Fr (upd H p (.lst vs)) (M ++ [some ds]) ∧ (μ ++ [p])[M.length]? = some p := by
  have hf : Hf p = none := s.ex.free hp
  have hr : Fr p = none := s.fr.free hp
  have hm : μ <+: μ ++ [p] := List.prefix_append _ _
  have hat : (μ ++ [p])[M.length]? = some p := by rw [← s.len]; simp
  have hnp : p ∉ μ := fun q => by
    obtain ⟨u, e⟩ := s.old p q
    rw [hp] at e; cases e
  refine ⟨⟨fun b u e => ?_, fun b u e => ?_, s.dis, by simp [s.len], ?_, fun n es e => ?_, fun b hb => ?_⟩, hat⟩
  · rw [upd_ne (ne_of_none e hf)]; exact s.ex b u e
  · rw [upd_ne (ne_of_none e hr)]; exact s.fr b u e
  · rw [List.nodup_append]
    exact ⟨s.nd, by simp, fun a ha b hb => by
      have : b = p := by simpa using hb
      subst this
      exact fun z => hnp (z ▸ ha)⟩
  · by_cases hn : n < M.length
    · rw [List.getElem?_append_left hn] at e
      obtain ⟨a, ws, h1, h2, h3, h4, h5⟩ := s.cell n es e
      exact ⟨a, ws, pre_at hm h1, h2, h3, by rw [upd_ne (ne_of_none h4 hp)]; exact h4, h5.mono (Same.refl _) hm⟩
    · have hn' : n = M.length := by
        have := (List.getElem?_eq_some_iff.mp e).1
        simp at this; omega
      subst hn'
      rw [List.getElem?_append_right (Nat.le_refl _)] at e
      simp at e
      subst e
      exact ⟨p, vs, hat, hf, hr, upd_same, r.mono (Same.refl _) hm⟩
  · rcases List.mem_append.mp hb with q | q
    · obtain ⟨u, e⟩ := s.old b q
      exact ⟨u, by rw [upd_ne (ne_of_none e hp)]; exact e⟩
    · have : b = p := by simpa using q
      subst this
      exact ⟨_, upd_same⟩
theorem nodup_at {l : List Addr} (h : l.Nodup) {i j : Nat} {a : Addr} (hi : l[i]? = some a) (hj : l[j]? = some a) : i = j :=
  nd_ix h hi hj
/-- a list that may change is changed -/
theorem SR.turn {n : Nat} {ds es : List D} {ws : List V} {a : Addr} (s : SR K μ Hf Fr H M) (hM : M[n]? = some (some ds)) (ha : μ[n]? = some a) (r : RepAll K μ Hf ws es) :
    SR K μ Hf Fr (upd H a (.lst ws)) (M.set n (some es)) := by
  obtain ⟨a', vs, h1, h2, h3, h4, h5⟩ := s.cell n ds hM
  rw [ha] at h1; cases h1
  have hn : n < M.length := (List.getElem?_eq_some_iff.mp hM).1
  refine ⟨fun b u e => ?_, fun b u e => ?_, s.dis, by simp [s.len], s.nd, fun k ks e => ?_, fun b hb => ?_⟩
  · rw [upd_ne (ne_of_none e h2)]; exact s.ex b u e
  · rw [upd_ne (ne_of_none e h3)]; exact s.fr b u e
  · by_cases hk : n = k
    · subst hk
      rw [List.getElem?_set_self hn] at e
      cases e
      exact ⟨a, ws, ha, h2, h3, upd_same, r⟩
    · rw [List.getElem?_set_ne hk] at e
      obtain ⟨b, us, g1, g2, g3, g4, g5⟩ := s.cell k ks e
      have hb : b ≠ a := fun z => hk (nodup_at s.nd ha (z ▸ g1))
      exact ⟨b, us, g1, g2, g3, by rw [upd_ne hb]; exact g4, g5⟩
  · by_cases hb' : b = a
    · subst hb'; exact ⟨_, upd_same⟩
    · obtain ⟨u, e⟩ := s.old b hb
      exact ⟨u, by rw [upd_ne hb']; exact e⟩
/-- a list that may change becomes data -/
theorem SR.seal {n : Nat} {ds : List D} {a : Addr} (s : SR K μ Hf Fr H M) (hM : M[n]? = some (some ds)) (ha : μ[n]? = some a) :
    ∃ Hf', Same Hf Hf' ∧ SR K μ Hf' Fr H (M.set n none) ∧ Rep K μ Hf' (.ref a) (.lst ds) := by
  obtain ⟨a', vs, h1, h2, h3, h4, h5⟩ := s.cell n ds hM
  rw [ha] at h1; cases h1
  have hs : Same Hf (upd Hf a (.lst vs)) := fun b u e => by rw [upd_ne (ne_of_none e h2)]; exact e
  have hn : n < M.length := (List.getElem?_eq_some_iff.mp hM).1
  refine ⟨upd Hf a (.lst vs), hs, ⟨fun b u e => ?_, s.fr, fun b u e => ?_, by simp [s.len], s.nd, fun k ks e => ?_, s.old⟩, .lst upd_same (h5.mono hs (List.prefix_refl _))⟩
  · by_cases hb : b = a
    · subst hb; rw [upd_same] at e; rw [← e]; exact h4
    · rw [upd_ne hb] at e; exact s.ex b u e
  · have : b ≠ a := ne_of_none e h3
    rw [upd_ne this]; exact s.dis b u e
  · by_cases hk : n = k
    · subst hk
      rw [List.getElem?_set_self hn] at e
      cases e
    · rw [List.getElem?_set_ne hk] at e
      obtain ⟨b, us, g1, g2, g3, g4, g5⟩ := s.cell k ks e
      have hb : b ≠ a := fun z => hk (nodup_at s.nd ha (z ▸ g1))
      exact ⟨b, us, g1, by rw [upd_ne hb]; exact g2, g3, g4, g5.mono hs (List.prefix_refl _)⟩
end

/-! ### outcomes -/
structure XD where
  cls : Value
  fs : Option (List (Str × D))
inductive Out (α : Type) where
  | ok (a : α) (M : Mem)
  | exc (x : XD) (M : Mem)
  | no
def Out.bind {α β : Type} (o : Out α) (f : α → Mem → Out β) : Out β := match o with
  | .ok a M => f a M
  | .exc x M => .exc x M
  | .no => .no
@[simp] theorem Out.bind_ok {α β : Type} (a : α) (M : Mem) (f : α → Mem → Out β) : (Out.ok a M).bind f = f a M := rfl
@[simp] theorem Out.bind_no {α β : Type} (f : α → Mem → Out β) : (Out.no : Out α).bind f = .no := rfl
@[simp] theorem Out.bind_exc {α β : Type} (x : XD) (M : Mem) (f : α → Mem → Out β) : (Out.exc x M : Out α).bind f = .exc x M := rfl
def Out.map {α β : Type} (o : Out α) (f : α → β) : Out β := o.bind fun a M => .ok (f a) M
def FRep (K : Kf) (μ : List Addr) (Hf : Hp) : List (Str × V) → List (Str × D) → Prop
  | [], [] => True
  | (f, v) :: vs, (g, d) :: ds => f = g ∧ Rep K μ Hf v d ∧ FRep K μ Hf vs ds
  | _, _ => False
def XRep (K : Kf) (μ : List Addr) (Hf H : Hp) (x : XD) (dx : Option Addr) : Prop := match x.fs with
  | none => dx = none
  | some fs => ∃ d fv, dx = some d ∧ H d = some (.xd fv) ∧ FRep K μ Hf fv fs
def Post {α : Type} (K : Kf) (E : XK) (o : Out α) (μ : List Addr) (Hf Fr : Hp) (k : α → List Addr → Hp → Hp → Mem → Prop) : Prop := match o with
  | .ok a M' => ∀ H' Hf' μ', Same Hf Hf' → μ <+: μ' → SR K μ' Hf' Fr H' M' → k a μ' Hf' H' M'
  | .exc x M' => ∀ dx H' Hf' μ', Same Hf Hf' → μ <+: μ' → SR K μ' Hf' Fr H' M' → XRep K μ' Hf' H' x dx → E x.cls dx H'
  | .no => False
section
variable {α β : Type} {K : Kf} {E : XK} {o : Out α} {μ μ1 : List Addr} {Hf Hf1 Fr : Hp} {k k' : α → List Addr → Hp → Hp → Mem → Prop}
theorem Post.later (h : Post K E o μ Hf Fr k) (e : Same Hf Hf1) (m : μ <+: μ1) : Post K E o μ1 Hf1 Fr k := by
  cases o with
  | ok a M => exact fun H' Hf' μ' e' m' s => h H' Hf' μ' (e.trans e') (m.trans m') s
  | exc x M => exact fun dx H' Hf' μ' e' m' s => h dx H' Hf' μ' (e.trans e') (m.trans m') s
  | no => exact h
theorem Post.weak (h : Post K E o μ Hf Fr k) (i : ∀ a μ' Hf' H' M', Same Hf Hf' → μ <+: μ' → SR K μ' Hf' Fr H' M' → k a μ' Hf' H' M' → k' a μ' Hf' H' M') : Post K E o μ Hf Fr k' := by
  cases o with
  | ok a M => exact fun H' Hf' μ' e m s => i a μ' Hf' H' M e m s (h H' Hf' μ' e m s)
  | exc x M => exact h
  | no => exact h
theorem Post.split {f : α → Mem → Out β} {k : β → List Addr → Hp → Hp → Mem → Prop} (h : Post K E (o.bind f) μ Hf Fr k) :
    Post K E o μ Hf Fr (fun a μ1 Hf1 _ M1 => Post K E (f a M1) μ1 Hf1 Fr k) := by
  cases o with
  | ok a M => exact fun H' Hf' μ' e m _ => Post.later (o := f a M) h e m
  | exc x M => exact h
  | no => exact h
end
/-- by values: what follows, by data -/
abbrev kD (K : Kf) (Q : VK) : D → List Addr → Hp → Hp → Mem → Prop := fun d μ' Hf' H' _ => ∀ v, Rep K μ' Hf' v d → Q v H'
abbrev kA (K : Kf) (Q : List V → Hp → Prop) : List D → List Addr → Hp → Hp → Mem → Prop := fun ds μ' Hf' H' _ => ∀ vs, RepAll K μ' Hf' vs ds → Q vs H'
abbrev kB (Q : Bool → Hp → Prop) : Bool → List Addr → Hp → Hp → Mem → Prop := fun b _ _ H' _ => Q b H'
inductive Fl where
  | nx (ρ : Ro) | rt (d : D) | bk (ρ : Ro) | ct (ρ : Ro)
def kS (K : Kf) (N : Ends) : Fl → List Addr → Hp → Hp → Mem → Prop := fun f μ' Hf' H' _ => match f with
  | .nx ρ => ∀ σ, ERep K μ' Hf' σ ρ → N.nx σ H'
  | .rt d => ∀ v, Rep K μ' Hf' v d → N.rt v H'
  | .bk ρ => ∀ σ, ERep K μ' Hf' σ ρ → N.bk σ H'
  | .ct ρ => ∀ σ, ERep K μ' Hf' σ ρ → N.ct σ H'
abbrev FE := Ro → Mem → Out D
abbrev FA := Ro → Mem → Out (List D)
abbrev FT := Ro → Mem → Out Bool
abbrev FS := Ro → Mem → Out Fl
def teF (K : Kf) (E : XK) (F : FE) : TE := fun σ H Q => ∃ μ Hf Fr ρ M, ERep K μ Hf σ ρ ∧ SR K μ Hf Fr H M ∧ Post K E (F ρ M) μ Hf Fr (kD K Q)
def taF (K : Kf) (E : XK) (F : FA) : TA := fun σ H Q => ∃ μ Hf Fr ρ M, ERep K μ Hf σ ρ ∧ SR K μ Hf Fr H M ∧ Post K E (F ρ M) μ Hf Fr (kA K Q)
def ttF (K : Kf) (E : XK) (F : FT) : TT := fun σ H Q => ∃ μ Hf Fr ρ M, ERep K μ Hf σ ρ ∧ SR K μ Hf Fr H M ∧ Post K E (F ρ M) μ Hf Fr (kB Q)
def tsF (K : Kf) (E : XK) (F : FS) : TS := fun N σ H => ∃ μ Hf Fr ρ M, ERep K μ Hf σ ρ ∧ SR K μ Hf Fr H M ∧ Post K E (F ρ M) μ Hf Fr (kS K N)
abbrev DE (X : Cx) (E : XK) (e : Expr) (F : FE) : Prop := PE X e (teF X.K E F)
abbrev DA (X : Cx) (E : XK) (es : List Expr) (F : FA) : Prop := PA X es (taF X.K E F)
abbrev DT (X : Cx) (E : XK) (e : Expr) (F : FT) : Prop := PT X e (ttF X.K E F)
abbrev DS (X : Cx) (E : XK) (st : Stmt) (F : FS) : Prop := PS X st (tsF X.K E F)
abbrev DSs (X : Cx) (E : XK) (st : List Stmt) (F : FS) : Prop := PSs X st (tsF X.K E F)
section
variable {X : Cx} {e : Expr} {es : List Expr} {st : Stmt} {sts : List Stmt}
theorem pe_imp {t t' : TE} (h : PE X e t) (i : ∀ σ H Q, t' σ H Q → t σ H Q) : PE X e t' := ⟨fun pins s σ H Q I q => h.run pins s σ H Q I (i σ H Q q)⟩
theorem pt_imp {t t' : TT} (h : PT X e t) (i : ∀ σ H Q, t' σ H Q → t σ H Q) : PT X e t' := ⟨fun pins s σ H Q I q => h.run pins s σ H Q I (i σ H Q q)⟩
theorem pa_imp {t t' : TA} (h : PA X es t) (i : ∀ σ H Q, t' σ H Q → t σ H Q) : PA X es t' := ⟨fun pos pins s σ H Q I q => h.run pos pins s σ H Q I (i σ H Q q)⟩
theorem ps_imp {t t' : TS} (h : PS X st t) (i : ∀ N σ H, t' N σ H → t N σ H) : PS X st t' := ⟨fun pins s σ H N I q => h.run pins s σ H N I (i N σ H q)⟩
theorem pss_imp {t t' : TS} (h : PSs X sts t) (i : ∀ N σ H, t' N σ H → t N σ H) : PSs X sts t' := ⟨fun pins s σ H N I q => h.run pins s σ H N I (i N σ H q)⟩
end
end Den
namespace Den
open PySem PySem.Spec PyProof.Rows L2

/-! ### operators by data -/
abbrev G2 := D → D → Mem → Out D
def rD2 (K : Kf) (E : XK) (g : G2) : R2 := fun x y H Q => ∃ μ Hf Fr M d1 d2, Rep K μ Hf x d1 ∧ Rep K μ Hf y d2 ∧ SR K μ Hf Fr H M ∧ Post K E (g d1 d2 M) μ Hf Fr (kD K Q)
@[simp] def eTwo (g : G2) (fa fb : FE) : FE := fun ρ M => (fa ρ M).bind fun x M1 => (fb ρ M1).bind fun y M2 => g x y M2
theorem two_go {K : Kf} {E : XK} {g : G2} {fa fb : FE} {σ : L2.St} {H : Hp} {Q : VK} (h : teF K E (eTwo g fa fb) σ H Q) : tOp (rD2 K E g) (teF K E fa) (teF K E fb) σ H Q := by
  obtain ⟨μ, Hf, Fr, ρ, M, r, s, p⟩ := h
  refine ⟨μ, Hf, Fr, ρ, M, r, s, p.split.weak fun x μ1 Hf1 H1 M1 e1 m1 s1 p1 v1 r1 => ?_⟩
  refine ⟨μ1, Hf1, Fr, ρ, M1, r.mono e1 m1, s1, p1.split.weak fun y μ2 Hf2 H2 M2 e2 m2 s2 p2 v2 r2 => ?_⟩
  exact ⟨μ2, Hf2, Fr, M2, x, y, Rep.mono e2 m2 _ _ r1, r2, s2, p2⟩
/-- what follows, at the state as it is -/
theorem Post.now {α : Type} {K : Kf} {E : XK} {a : α} {M : Mem} {μ : List Addr} {Hf Fr H : Hp} {k : α → List Addr → Hp → Hp → Mem → Prop} (p : Post K E (.ok a M) μ Hf Fr k) (s : SR K μ Hf Fr H M) : k a μ Hf H M :=
  p H Hf μ (Same.refl _) (List.prefix_refl _) s
/-- a new object handed out as data -/
theorem Post.new {K : Kf} {E : XK} {d : D} {M : Mem} {μ : List Addr} {Hf Fr H : Hp} {Q : VK} {o : HO} (p : Post K E (.ok d M) μ Hf Fr (kD K Q)) (s : SR K μ Hf Fr H M) {q : Addr} (hq : H q = none)
    (r : Same Hf (upd Hf q o) → Rep K μ (upd Hf q o) (.ref q) d) : Q (.ref q) (upd H q o) := by
  obtain ⟨s', e⟩ := s.froz (o := o) hq
  exact p (upd H q o) (upd Hf q o) μ e (List.prefix_refl _) s' _ (r e)
theorem rep_lst {K : Kf} {μ : List Addr} {Hf : Hp} {q : Addr} {vs : List V} {ds : List D} (r : RepAll K μ Hf vs ds) (e : Same Hf (upd Hf q (.lst vs))) : Rep K μ (upd Hf q (.lst vs)) (.ref q) (.lst ds) :=
  .lst upd_same (r.mono e (List.prefix_refl _))
theorem rep_tup {K : Kf} {μ : List Addr} {Hf : Hp} {q : Addr} {vs : List V} {ds : List D} (r : RepAll K μ Hf vs ds) (e : Same Hf (upd Hf q (.tup vs))) : Rep K μ (upd Hf q (.tup vs)) (.ref q) (.tup ds) :=
  .tup (SqT.of upd_same) (r.mono e (List.prefix_refl _))

@[irreducible] def lineD : Nat := 1000000
theorem lineD_eq : lineD = 1000000 := by unfold lineD; rfl
theorem lineD_le : lineD ≤ sizeLine := by rw [lineD_eq]; decide
theorem line_le {n : Nat} (h : n ≤ lineD) : n ≤ sizeLine := Nat.le_trans h lineD_le
theorem line_lt {n : Nat} (h : n < lineD) : n < sizeLine := Nat.lt_of_lt_of_le h lineD_le
theorem line1k {n : Nat} (h : n ≤ 10000) : n ≤ lineD := by rw [lineD_eq]; omega

section
variable {X : Cx} {E : XK} {a b c e : Expr} {es : List Expr} {fa fb fc F : FE} {pos : Pos}
theorem de_c {d : D} {t : TE} (v : V) (h : PE X e (tC v)) (r : ∀ μ Hf, Rep X.K μ Hf v d) : DE X E e (fun _ M => .ok d M) :=
  pe_imp h fun σ H Q ⟨μ, Hf, Fr, ρ, M, _, s, p⟩ => p.now s v (r μ Hf)
theorem de_int {i j pos} : DE X E (.Constant (.int i) j pos) (fun _ M => .ok (.int i) M) := de_c (t := tC (.int i)) (.int i) pe_int fun _ _ => .int i
theorem de_str {i j pos} : DE X E (.Constant (.str i) j pos) (fun _ M => .ok (.str i) M) := de_c (t := tC (.str i)) (.str i) pe_str fun _ _ => .str i
theorem de_bl {i j pos} : DE X E (.Constant (.bool i) j pos) (fun _ M => .ok (.bl i) M) := de_c (t := tC (.bl i)) (.bl i) pe_bl fun _ _ => .bl i
theorem de_non {j pos} : DE X E (.Constant .none j pos) (fun _ M => .ok .non M) := de_c (t := tC .non) .non pe_non fun _ _ => .non
/-- a name of the module -/
theorem de_glob {x : Str} {v : V} {u : Value} {d : D} {pos : Pos} (hg : Gl X x) (hm : X.mg x = some u) (r : RelV v u) (q : ∀ μ Hf, Rep X.K μ Hf v d) (hd : (x == ("__debug__" : Str)) = false := by decide) : DE X E (.Name x pos) (fun _ M => .ok d M) :=
  de_c (t := tC v) v (pe_glob hg hm r hd) q
@[simp] def eVar (i : Nat) : FE := fun ρ M => match ρ[i]? with
  | some (some d) => .ok d M
  | _ => .no
theorem de_var {i : Nat} {x : Str} {pos : Pos} (h : PE X (.Name x pos) (tVar i)) : DE X E (.Name x pos) (eVar i) := by
  refine pe_imp h fun σ H Q ⟨μ, Hf, Fr, ρ, M, r, s, p⟩ => ?_
  unfold eVar at p
  split at p
  · rename_i d e
    obtain ⟨v, h1, h2⟩ := r.slot i d e
    exact ⟨v, h1, p.now s v h2⟩
  · exact p.elim
theorem de_two {op : Operator} {g : G2} (ho : OpR X (binaryOp op) (rD2 X.K E g)) (ha : DE X E a fa) (hb : DE X E b fb) : DE X E (.BinOp a op b pos) (eTwo g fa fb) :=
  pe_imp (pe_op ho ha hb) fun _ _ _ h => two_go h
theorem de_cmp {op : CmpOp} {g : G2} (ho : OpR X (compareOp op) (rD2 X.K E g)) (ha : DE X E a fa) (hb : DE X E b fb) (hm : behindInMarks op b = false) : DE X E (.Compare a [op] [b] pos) (eTwo g fa fb) :=
  pe_imp (pe_cmpR ho ha hb hm) fun _ _ _ h => two_go h
/-- a value that is a bool, as a test -/
@[simp] def asB (o : Out D) : Out Bool := o.bind fun d M => match d with
  | .bl k => .ok k M
  | _ => .no
@[simp] def fB (F : FE) : FT := fun ρ M => asB (F ρ M)
theorem post_asB {K : Kf} {o : Out D} {μ : List Addr} {Hf Fr : Hp} {Q : Bool → Hp → Prop} (p : Post K E (asB o) μ Hf Fr (kB Q)) : Post K E o μ Hf Fr (kD K fun x H' => ∃ k, x = .bl k ∧ Q k H') := by
  refine p.split.weak fun d μ1 Hf1 H1 M1 e1 m1 s1 p1 v r => ?_
  cases d with
  | bl k => cases r; exact ⟨k, rfl, p1.now s1⟩
  | _ => exact p1.elim
theorem dt_of {op : CmpOp} {g : G2} (ho : OpR X (compareOp op) (rD2 X.K E g)) (ha : DE X E a fa) (hb : DE X E b fb) (hm : behindInMarks op b = false) : DT X E (.Compare a [op] [b] pos) (fB (eTwo g fa fb)) := by
  refine pt_imp (pt_cmpR ho ha hb hm) fun σ H Q ⟨μ, Hf, Fr, ρ, M, r, s, p⟩ => ?_
  exact two_go ⟨μ, Hf, Fr, ρ, M, r, s, post_asB p⟩
theorem dt_val (h : DE X E e F) (he : ∀ whole, isTrue e X.env whole = (do let v ← whole; standAt e.pos; holding [v] (truthy v)) := by intro _; rfl) : DT X E e (fB F) := by
  refine pt_imp (pt_val h he) fun σ H Q ⟨μ, Hf, Fr, ρ, M, r, s, p⟩ => ?_
  exact ⟨μ, Hf, Fr, ρ, M, r, s, post_asB p⟩

/-! ### whole numbers -/
def mulC (i j : Int) : Prop := CMul i j ∨ CMulW i j
instance (i j : Int) : Decidable (mulC i j) := by unfold mulC CMul CMulW; infer_instance
def powC (i j : Int) : Prop := 0 ≤ j ∧ (Builtin.Int.intBits i : Int) * j ≤ 2 ^ 27
instance (i j : Int) : Decidable (powC i j) := by unfold powC; infer_instance
theorem op_mulA : OpR X (binaryOp .Mult) (rI mulC fun i j => .int (i * j)) := opI fun _ _ _ _ _ _ _ hc q => mul_int q (hc.elim CMul.ok CMulW.ok)
theorem op_powA : OpR X (binaryOp .Pow) (rI powC fun i j => .int (i ^ j.toNat)) := opI fun _ _ _ _ _ _ _ hc q => pow_int hc.1 hc.2 q
@[simp] def iG (C : Int → Int → Prop) [∀ i j, Decidable (C i j)] (g : Int → Int → D) : G2 := fun x y M => match x, y with
  | .int i, .int j => if C i j then .ok (g i j) M else .no
  | _, _ => .no
theorem ints_of {K : Kf} {C : Int → Int → Prop} [∀ i j, Decidable (C i j)] {g : Int → Int → D} {g' : Int → Int → V} (hg : ∀ i j μ Hf, Rep K μ Hf (g' i j) (g i j)) {x y : V} {H : Hp} {Q : VK} (h : rD2 K E (iG C g) x y H Q) : rI C g' x y H Q := by
  obtain ⟨μ, Hf, Fr, M, d1, d2, r1, r2, s, p⟩ := h
  unfold iG at p
  split at p
  · cases r1; cases r2
    split at p
    · rename_i hc
      exact ⟨_, _, rfl, rfl, hc, p.now s _ (hg _ _ _ _)⟩
    · exact p.elim
  · exact p.elim
theorem opr_imp {f : Value → Value → Sem Value} {r r' : R2} (h : OpR X f r) (i : ∀ x y H Q, r' x y H Q → r x y H Q) : OpR X f r' :=
  fun pins s σ H x y v u Q I rx ry q => h pins s σ H x y v u Q I rx ry (i x y H Q q)
@[simp] def TT2 (_ _ : Int) : Prop := True
instance (i j : Int) : Decidable (TT2 i j) := by unfold TT2; infer_instance
theorem rI_true {g : Int → Int → V} {x y : V} {H : Hp} {Q : VK} (h : rI TT2 g x y H Q) : rI0 g x y H Q := by
  obtain ⟨i, j, h1, h2, _, q⟩ := h
  exact ⟨i, j, h1, h2, q⟩
def gSub : G2 := iG TT2 fun i j => .int (i - j)
@[simp] theorem gSub_ap (x y : D) (M : Mem) : gSub x y M = (iG TT2 fun i j => .int (i - j)) x y M := rfl
@[simp] def pos2 (_ j : Int) : Prop := 0 < j
instance (i j : Int) : Decidable (pos2 i j) := by unfold pos2; infer_instance
instance (i j : Int) : Decidable (CDivW i j) := by unfold CDivW; infer_instance
def gMul : G2 := iG mulC fun i j => .int (i * j)
def gPow : G2 := iG powC fun i j => .int (i ^ j.toNat)
def gDiv : G2 := iG CDivW fun i j => .int (i / j)
def gMod : G2 := iG pos2 fun i j => .int (i % j)
theorem o_sub : OpR X (binaryOp .Sub) (rD2 X.K E gSub) := opr_imp op_sub fun _ _ _ _ h => rI_true (ints_of (fun _ _ _ _ => .int _) h)
theorem o_mul : OpR X (binaryOp .Mult) (rD2 X.K E gMul) := opr_imp op_mulA fun _ _ _ _ h => ints_of (fun _ _ _ _ => .int _) h
theorem o_pow : OpR X (binaryOp .Pow) (rD2 X.K E gPow) := opr_imp op_powA fun _ _ _ _ h => ints_of (fun _ _ _ _ => .int _) h
theorem o_div : OpR X (binaryOp .FloorDiv) (rD2 X.K E gDiv) := opr_imp op_fdivW fun _ _ _ _ h => ints_of (fun _ _ _ _ => .int _) h
theorem o_mod : OpR X (binaryOp .Mod) (rD2 X.K E gMod) := opr_imp op_mod fun _ _ _ _ h => ints_of (C := pos2) (fun _ _ _ _ => .int _) h
def gLt : G2 := iG TT2 fun i j => .bl (decide (i < j))
@[simp] theorem gLt_ap (x y : D) (M : Mem) : gLt x y M = (iG TT2 fun i j => .bl (decide (i < j))) x y M := rfl
def gLe : G2 := iG TT2 fun i j => .bl (decide (i ≤ j))
@[simp] theorem gLe_ap (x y : D) (M : Mem) : gLe x y M = (iG TT2 fun i j => .bl (decide (i ≤ j))) x y M := rfl
def gGt : G2 := iG TT2 fun i j => .bl (decide (j < i))
@[simp] theorem gGt_ap (x y : D) (M : Mem) : gGt x y M = (iG TT2 fun i j => .bl (decide (j < i))) x y M := rfl
def gGe : G2 := iG TT2 fun i j => .bl (decide (j ≤ i))
@[simp] theorem gGe_ap (x y : D) (M : Mem) : gGe x y M = (iG TT2 fun i j => .bl (decide (j ≤ i))) x y M := rfl
theorem o_gt : OpR X (compareOp .Gt) (rD2 X.K E gGt) := opr_imp op_gt fun _ _ _ _ h => rI_true (ints_of (fun _ _ _ _ => .bl _) h)
theorem o_ge : OpR X (compareOp .GtE) (rD2 X.K E gGe) := opr_imp op_ge fun _ _ _ _ h => rI_true (ints_of (fun _ _ _ _ => .bl _) h)
theorem o_ltI : OpR X (compareOp .Lt) (rD2 X.K E gLt) := opr_imp op_lt fun _ _ _ _ h => rI_true (ints_of (fun _ _ _ _ => .bl _) h)
theorem o_leI : OpR X (compareOp .LtE) (rD2 X.K E gLe) := opr_imp op_le fun _ _ _ _ h => rI_true (ints_of (fun _ _ _ _ => .bl _) h)
/-- <= of two texts -/
def gLeS : G2 := fun x y M => match x, y with
  | .str a, .str b => .ok (.bl (decide (a.cps.toList ≤ b.cps.toList))) M
  | _, _ => .no

/-! ### + -/
@[simp] def gAdd : G2 := fun x y M => match x, y with
  | .int i, .int j => .ok (.int (i + j)) M
  | .str i, .str j => if i.length + j.length ≤ lineD then .ok (.str (i ++ j)) M else .no
  | .lst i, .lst j => if i.length + j.length ≤ lineD then .ok (.lst (i ++ j)) M else .no
  | _, _ => .no
theorem o_add : OpR X (binaryOp .Add) (rD2 X.K E gAdd) := by
  refine opr_imp (op_add.or (op_add_str.or op_cat)) fun x y H Q ⟨μ, Hf, Fr, M, d1, d2, r1, r2, s, p⟩ => ?_
  unfold gAdd at p
  split at p
  · cases r1; cases r2
    exact .inl ⟨_, _, rfl, rfl, p.now s _ (.int _)⟩
  · cases r1; cases r2
    split at p
    · rename_i hz
      exact .inr (.inl ⟨_, _, rfl, rfl, line_le hz, p.now s _ (.str _)⟩)
    · exact p.elim
  · split at p
    · rename_i hz
      cases r1 with
      | lst h1 q1 =>
        cases r2 with
        | lst h2 q2 =>
          refine .inr (.inr ⟨_, _, _, _, rfl, rfl, s.ex _ _ h1, s.ex _ _ h2, line_le (by rw [q1.length, q2.length]; exact hz), fun q hq => ?_⟩)
          exact p.new s hq fun e => rep_lst (q1.app q2) e
    · exact p.elim
  · exact p.elim

/-! ### data as the library's data: ==, !=, repr -/
mutual
def toPy : D → Option PyData
  | .non => some .none
  | .bl b => some (.bool b)
  | .int i => some (.int i)
  | .str x => some (.str x)
  | .lst xs => (toPys xs).map .list
  | .tup xs => (toPys xs).map .tuple
  | _ => none
def toPys : List D → Option (List PyData)
  | [] => some []
  | d :: ds => match toPy d, toPys ds with
    | some x, some xs => some (x :: xs)
    | _, _ => none
end
mutual
theorem Rep.dp {K : Kf} {μ : List Addr} {H H' : Hp} (e : Same H H') : ∀ (d : D) (v : V) (y : PyData), Rep K μ H v d → toPy d = some y → Dp K H' v y
  | .non, _, _, h, q => by cases h; cases q; exact .non
  | .bl _, _, _, h, q => by cases h; cases q; exact .bl _
  | .int _, _, _, h, q => by cases h; cases q; exact .int _
  | .str _, _, _, h, q => by cases h; cases q; exact .str _
  | .lst ds, _, y, h, q => by
    cases h with
    | lst s r =>
      unfold toPy at q
      cases hq : toPys ds with
      | none => rw [hq] at q; cases q
      | some ys =>
        rw [hq] at q; cases q
        exact .lst (SqL.of (e _ _ s)) (RepAll.dp e ds _ ys r hq)
  | .tup ds, _, y, h, q => by
    cases h with
    | tup s r =>
      unfold toPy at q
      cases hq : toPys ds with
      | none => rw [hq] at q; cases q
      | some ys =>
        rw [hq] at q; cases q
        exact .tup (same_t e s) (RepAll.dp e ds _ ys r hq)
  | .ty _, _, _, _, q => by cases q
  | .fn _, _, _, _, q => by cases q
  | .scr _, _, _, _, q => by cases q
  | .dct _ _, _, _, _, q => by cases q
  | .loc _, _, _, _, q => by cases q
theorem RepAll.dp {K : Kf} {μ : List Addr} {H H' : Hp} (e : Same H H') : ∀ (ds : List D) (vs : List V) (ys : List PyData), RepAll K μ H vs ds → toPys ds = some ys → DpAll K H' vs ys
  | [], _, _, h, q => by cases h; cases q; exact .nil
  | d :: ds, _, ys, h, q => by
    cases h with
    | cons r t =>
      unfold toPys at q
      cases h1 : toPy d with
      | none => rw [h1] at q; cases q
      | some x =>
        cases h2 : toPys ds with
        | none => rw [h1, h2] at q; cases q
        | some xs =>
          rw [h1, h2] at q; cases q
          exact .cons (Rep.dp e d _ x r h1) (RepAll.dp e ds _ xs t h2)
end
@[simp] def gEqv (f : Bool → Bool) : G2 := fun x y M => match x, y with
  | .str a, .str b => .ok (.bl (f (decide (a = b)))) M
  | .int a, .int b => .ok (.bl (f (decide (a = b)))) M
  | .bl a, .bl b => .ok (.bl (f (decide (a = b)))) M
  | x, y => match toPy x, toPy y with
    | some p, some q => if SeqAt.shaped p = true ∧ SeqAt.shaped q = true then .ok (.bl (f (PyData.eqv p q))) M else .no
    | _, _ => .no
def gEq : G2 := gEqv fun b => b
@[simp] theorem gEq_ap (x y : D) (M : Mem) : gEq x y M = (gEqv fun b => b) x y M := rfl
def gNe : G2 := gEqv fun b => !b
@[simp] theorem gNe_ap (x y : D) (M : Mem) : gNe x y M = (gEqv fun b => !b) x y M := rfl
theorem dec_ctor {α : Type} [DecidableEq α] {c : α → V} (h : ∀ a b, c a = c b → a = b) (a b : α) : decide (c a = c b) = decide (a = b) := decide_eq_decide.mpr ⟨h a b, fun e => by rw [e]⟩
theorem o_eq (hu : X.A.units + 64 < cLine) : OpR X (compareOp .Eq) (rD2 X.K E gEq) := by
  refine opr_imp (op_eq.or (op_eqD hu)) fun x y H Q ⟨μ, Hf, Fr, M, d1, d2, r1, r2, s, p⟩ => ?_
  unfold gEq gEqv at p
  split at p
  · cases r1; cases r2; exact .inl ⟨rfl, by rw [dec_ctor (c := V.str) fun a b e => V.str.inj e]; exact p.now s _ (.bl _)⟩
  · cases r1; cases r2; exact .inl ⟨rfl, by rw [dec_ctor (c := V.int) fun a b e => V.int.inj e]; exact p.now s _ (.bl _)⟩
  · cases r1; cases r2; exact .inl ⟨rfl, by rw [dec_ctor (c := V.bl) fun a b e => V.bl.inj e]; exact p.now s _ (.bl _)⟩
  · split at p
    · rename_i p1 p2 e1 e2
      split at p
      · rename_i hs
        exact .inr ⟨p1, p2, r1.dp s.ex _ _ _ e1, r2.dp s.ex _ _ _ e2, hs.1, hs.2, p.now s _ (.bl _)⟩
      · exact p.elim
    · exact p.elim
theorem o_ne (hu : X.A.units + 64 < cLine) : OpR X (compareOp .NotEq) (rD2 X.K E gNe) := by
  refine opr_imp (op_ne.or (op_neD hu)) fun x y H Q ⟨μ, Hf, Fr, M, d1, d2, r1, r2, s, p⟩ => ?_
  unfold gNe gEqv at p
  split at p
  · cases r1; cases r2; exact .inl ⟨rfl, by rw [dec_ctor (c := V.str) fun a b e => V.str.inj e]; exact p.now s _ (.bl _)⟩
  · cases r1; cases r2; exact .inl ⟨rfl, by rw [dec_ctor (c := V.int) fun a b e => V.int.inj e]; exact p.now s _ (.bl _)⟩
  · cases r1; cases r2; exact .inl ⟨rfl, by rw [dec_ctor (c := V.bl) fun a b e => V.bl.inj e]; exact p.now s _ (.bl _)⟩
  · split at p
    · rename_i p1 p2 e1 e2
      split at p
      · rename_i hs
        exact .inr ⟨p1, p2, r1.dp s.ex _ _ _ e1, r2.dp s.ex _ _ _ e2, hs.1, hs.2, p.now s _ (.bl _)⟩
      · exact p.elim
    · exact p.elim
end
end Den
namespace Den
open PySem PySem.Spec PyProof.Rows L2

/-! ### truth -/
@[simp] def truD (d : D) (M : Mem) : Option Bool := match d with
  | .non => some false
  | .bl b => some b
  | .int i => some (i != 0)
  | .str y => if y.length ≤ lineD then some ((y.length : Int) != 0) else none
  | .lst xs => some (!xs.isEmpty)
  | .scr xs => some (!xs.isEmpty)
  | .tup xs => some (!xs.isEmpty)
  | .loc n => match M[n]? with
    | some (some xs) => some (!xs.isEmpty)
    | _ => none
  | _ => none
theorem RepAll.empty {K : Kf} {μ : List Addr} {H : Hp} {vs : List V} {ds : List D} (r : RepAll K μ H vs ds) : vs.isEmpty = ds.isEmpty := by cases r <;> rfl
theorem tru_of {K : Kf} {μ : List Addr} {Hf Fr H : Hp} {M : Mem} {v : V} {d : D} {k : Bool} (s : SR K μ Hf Fr H M) (r : Rep K μ Hf v d) (h : truD d M = some k) : TruV K v H k := by
  unfold truD at h
  split at h
  · cases r; cases h; exact rfl
  · cases r; cases h; exact rfl
  · cases r; cases h; exact rfl
  · cases r
    split at h
    · rename_i hz; cases h; exact ⟨line_le hz, rfl⟩
    · cases h
  · cases h
    cases r with
    | lst q t => exact .inl ⟨_, SqL.of (s.ex _ _ q), by rw [t.empty]⟩
  · cases h
    cases r with
    | scr q t => exact .inl ⟨_, same_l s.ex q, by rw [t.empty]⟩
  · cases h
    cases r with
    | tup q t => exact .inr (.inl ⟨_, same_t s.ex q, by rw [t.empty]⟩)
  · cases r with
    | loc q =>
      split at h
      · rename_i xs hM
        cases h
        obtain ⟨a, vs, h1, h2, h3, h4, h5⟩ := s.cell _ _ hM
        rw [q] at h1; cases h1
        exact .inl ⟨_, SqL.of h4, by rw [h5.empty]⟩
      · cases h
  · cases h
@[simp] def truO (d : D) (M : Mem) : Out Bool := match truD d M with
  | some k => .ok k M
  | none => .no
@[simp] def fTru (F : FE) : FT := fun ρ M => (F ρ M).bind truO
section
variable {X : Cx} {E : XK} {a b c e o : Expr} {es rest : List Expr} {fa fb fc F : FE} {ft fu : FT} {pos : Pos}
theorem dt_tru (ha : DE X E a F) (he : ∀ whole, isTrue a X.env whole = (do let v ← whole; standAt a.pos; holding [v] (truthy v)) := by intro _; rfl) : DT X E a (fTru F) := by
  refine pt_imp (pt_truth ha he) fun σ H Q ⟨μ, Hf, Fr, ρ, M, r, s, p⟩ => ?_
  refine ⟨μ, Hf, Fr, ρ, M, r, s, p.split.weak fun d μ1 Hf1 H1 M1 e1 m1 s1 p1 v r1 => ?_⟩
  unfold truO at p1
  split at p1
  · rename_i k hk
    exact ⟨k, tru_of s1 r1 hk, p1.now s1⟩
  · exact p1.elim
@[simp] def tNotF (t : FT) : FT := fun ρ M => (t ρ M).bind fun k M1 => .ok (!k) M1
theorem dt_not (ha : DT X E a ft) : DT X E (.UnaryOp .Not a pos) (tNotF ft) := by
  refine pt_imp (pt_not ha) fun σ H Q ⟨μ, Hf, Fr, ρ, M, r, s, p⟩ => ?_
  exact ⟨μ, Hf, Fr, ρ, M, r, s, p.split.weak fun d μ1 Hf1 H1 M1 e1 m1 s1 p1 => p1.now s1⟩
abbrev DW (X : Cx) (E : XK) (e : Expr) (F : FT) : Prop := PW X e (ttF X.K E F)
@[simp] def tAndF (t u : FT) : FT := fun ρ M => (t ρ M).bind fun k M1 => if k = true then u ρ M1 else .ok false M1
@[simp] def tOrF (t u : FT) : FT := fun ρ M => (t ρ M).bind fun k M1 => if k = true then .ok true M1 else u ρ M1
theorem pw_imp {t t' : TT} (h : PW X e t) (i : ∀ σ H Q, t' σ H Q → t σ H Q) : PW X e t' := ⟨fun wh pins s σ H Q I q => h.run wh pins s σ H Q I (i σ H Q q)⟩
theorem dw_and1 (ha : DT X E a ft) : DW X E (.BoolOp .And [a] pos) ft := pw_and1 ha
theorem dw_or1 (ha : DT X E a ft) : DW X E (.BoolOp .Or [a] pos) ft := pw_or1 ha
theorem dw_and (ha : DT X E a ft) (hb : DW X E (.BoolOp .And (b :: rest) pos) fu) : DW X E (.BoolOp .And (a :: b :: rest) pos) (tAndF ft fu) := by
  refine pw_imp (pw_and ha hb) fun σ H Q ⟨μ, Hf, Fr, ρ, M, r, s, p⟩ => ?_
  refine ⟨μ, Hf, Fr, ρ, M, r, s, p.split.weak fun k μ1 Hf1 H1 M1 e1 m1 s1 p1 => ?_⟩
  cases k with
  | true => exact iteT ⟨μ1, Hf1, Fr, ρ, M1, r.mono e1 m1, s1, p1⟩
  | false => exact iteF (p1.now s1)
theorem dw_or (ha : DT X E a ft) (hb : DW X E (.BoolOp .Or (b :: rest) pos) fu) : DW X E (.BoolOp .Or (a :: b :: rest) pos) (tOrF ft fu) := by
  refine pw_imp (pw_or ha hb) fun σ H Q ⟨μ, Hf, Fr, ρ, M, r, s, p⟩ => ?_
  refine ⟨μ, Hf, Fr, ρ, M, r, s, p.split.weak fun k μ1 Hf1 H1 M1 e1 m1 s1 p1 => ?_⟩
  cases k with
  | true => exact iteT (p1.now s1)
  | false => exact iteF ⟨μ1, Hf1, Fr, ρ, M1, r.mono e1 m1, s1, p1⟩
theorem dt_w (h : DW X E e ft) : DT X E e ft := h.pt
/-- and, or, not as values -/
@[simp] def eAnd (fa fb : FE) : FE := fun ρ M => (fa ρ M).bind fun x M1 => (truO x M1).bind fun k M2 => if k = true then fb ρ M2 else .ok x M2
@[simp] def eOr (fa fb : FE) : FE := fun ρ M => (fa ρ M).bind fun x M1 => (truO x M1).bind fun k M2 => if k = true then .ok x M2 else fb ρ M2
@[simp] def eNot (fa : FE) : FE := fun ρ M => (fa ρ M).bind fun x M1 => (truO x M1).bind fun k M2 => .ok (.bl (!k)) M2
theorem truO_ok {d : D} {M M' : Mem} {k : Bool} (h : truD d M = some k) : truO d M = .ok k M := by unfold truO; rw [h]
theorem de_one {op} (h : DE X E a F) : DE X E (.BoolOp op [a] pos) F := pe_one h
theorem de_and (ha : DE X E a fa) (hb : DE X E (.BoolOp .And (b :: rest) pos) fb) : DE X E (.BoolOp .And (a :: b :: rest) pos) (eAnd fa fb) := by
  refine pe_imp (pe_andT ha hb) fun σ H Q ⟨μ, Hf, Fr, ρ, M, r, s, p⟩ => ?_
  refine ⟨μ, Hf, Fr, ρ, M, r, s, p.split.weak fun d μ1 Hf1 H1 M1 e1 m1 s1 p1 v r1 => ?_⟩
  cases hk : truD d M1 with
  | none => unfold truO at p1; rw [hk] at p1; exact p1.elim
  | some k =>
    rw [truO_ok hk (M' := M1)] at p1
    refine ⟨k, tru_of s1 r1 hk, ?_⟩
    cases k with
    | true => exact iteT ⟨μ1, Hf1, Fr, ρ, M1, r.mono e1 m1, s1, p1⟩
    | false => exact iteF (p1.now s1 v r1)
theorem de_or (ha : DE X E a fa) (hb : DE X E (.BoolOp .Or (b :: rest) pos) fb) : DE X E (.BoolOp .Or (a :: b :: rest) pos) (eOr fa fb) := by
  refine pe_imp (pe_orT ha hb) fun σ H Q ⟨μ, Hf, Fr, ρ, M, r, s, p⟩ => ?_
  refine ⟨μ, Hf, Fr, ρ, M, r, s, p.split.weak fun d μ1 Hf1 H1 M1 e1 m1 s1 p1 v r1 => ?_⟩
  cases hk : truD d M1 with
  | none => unfold truO at p1; rw [hk] at p1; exact p1.elim
  | some k =>
    rw [truO_ok hk (M' := M1)] at p1
    refine ⟨k, tru_of s1 r1 hk, ?_⟩
    cases k with
    | true => exact iteT (p1.now s1 v r1)
    | false => exact iteF ⟨μ1, Hf1, Fr, ρ, M1, r.mono e1 m1, s1, p1⟩
theorem de_not (ha : DE X E a fa) : DE X E (.UnaryOp .Not a pos) (eNot fa) := by
  refine pe_imp (pe_notT ha) fun σ H Q ⟨μ, Hf, Fr, ρ, M, r, s, p⟩ => ?_
  refine ⟨μ, Hf, Fr, ρ, M, r, s, p.split.weak fun d μ1 Hf1 H1 M1 e1 m1 s1 p1 v r1 => ?_⟩
  cases hk : truD d M1 with
  | none => unfold truO at p1; rw [hk] at p1; exact p1.elim
  | some k =>
    rw [truO_ok hk (M' := M1)] at p1
    exact ⟨k, tru_of s1 r1 hk, p1.now s1 _ (.bl _)⟩
@[simp] def eIf (t : FT) (fa fb : FE) : FE := fun ρ M => (t ρ M).bind fun k M1 => if k = true then fa ρ M1 else fb ρ M1
theorem de_ifx (hc : DT X E c ft) (ha : DE X E a fa) (hb : DE X E b fb) : DE X E (.IfExp c a b pos) (eIf ft fa fb) := by
  refine pe_imp (pe_ifExp hc ha hb) fun σ H Q ⟨μ, Hf, Fr, ρ, M, r, s, p⟩ => ?_
  refine ⟨μ, Hf, Fr, ρ, M, r, s, p.split.weak fun k μ1 Hf1 H1 M1 e1 m1 s1 p1 => ?_⟩
  cases k with
  | true => exact iteT ⟨μ1, Hf1, Fr, ρ, M1, r.mono e1 m1, s1, p1⟩
  | false => exact iteF ⟨μ1, Hf1, Fr, ρ, M1, r.mono e1 m1, s1, p1⟩
/-- a op b op' c -/
@[simp] def eChain (g g' : G2) (fa fb fc : FE) : FE := fun ρ M => (fa ρ M).bind fun x M1 => (fb ρ M1).bind fun y M2 => (asB (g x y M2)).bind fun k M3 => if k = true then (fc ρ M3).bind fun z M4 => g' y z M4 else .ok (.bl false) M3
theorem chain_go {K : Kf} {g g' : G2} {σ : L2.St} {H : Hp} {Q : VK} (h : teF K E (eChain g g' fa fb fc) σ H Q) : tChain (rD2 K E g) (rD2 K E g') (teF K E fa) (teF K E fb) (teF K E fc) σ H Q := by
  obtain ⟨μ, Hf, Fr, ρ, M, r, s, p⟩ := h
  refine ⟨μ, Hf, Fr, ρ, M, r, s, p.split.weak fun x μ1 Hf1 H1 M1 e1 m1 s1 p1 v1 r1 => ?_⟩
  refine ⟨μ1, Hf1, Fr, ρ, M1, r.mono e1 m1, s1, p1.split.weak fun y μ2 Hf2 H2 M2 e2 m2 s2 p2 v2 r2 => ?_⟩
  refine ⟨μ2, Hf2, Fr, M2, x, y, Rep.mono e2 m2 _ _ r1, r2, s2, ?_⟩
  refine p2.split.split.weak fun d μ3 Hf3 H3 M3 e3 m3 s3 p3 w rw => ?_
  cases d with
  | bl k =>
    cases rw
    refine ⟨k, rfl, ?_⟩
    have p4 := p3.now s3
    cases k with
    | true =>
      refine iteT ⟨μ3, Hf3, Fr, ρ, M3, ((r.mono e1 m1).mono e2 m2).mono e3 m3, s3, p4.split.weak fun z μ5 Hf5 H5 M5 e5 m5 s5 p5 v5 r5 => ?_⟩
      exact ⟨μ5, Hf5, Fr, M5, y, z, Rep.mono e5 m5 _ _ (Rep.mono e3 m3 _ _ r2), r5, s5, p5⟩
    | false => exact iteF (p4.now s3 _ (.bl _))
  | _ => exact p3.elim
theorem de_chain {op op' : CmpOp} {g g' : G2} (ho : OpR X (compareOp op) (rD2 X.K E g)) (ho' : OpR X (compareOp op') (rD2 X.K E g')) (ha : DE X E a fa) (hb : DE X E b fb) (hc : DE X E c fc)
    (hm : lastMarks [op, op'] [b, c] = false := by with_unfolding_all rfl) : DE X E (.Compare a [op, op'] [b, c] pos) (eChain g g' fa fb fc) :=
  pe_imp (pe_chain ho ho' ha hb hc hm) fun _ _ _ h => chain_go h
theorem dt_chain {op op' : CmpOp} {g g' : G2} (ho : OpR X (compareOp op) (rD2 X.K E g)) (ho' : OpR X (compareOp op') (rD2 X.K E g')) (ha : DE X E a fa) (hb : DE X E b fb) (hc : DE X E c fc)
    (hm : lastMarks [op, op'] [b, c] = false := by with_unfolding_all rfl) : DT X E (.Compare a [op, op'] [b, c] pos) (fB (eChain g g' fa fb fc)) := by
  refine pt_imp (pt_chain ho ho' ha hb hc hm) fun σ H Q ⟨μ, Hf, Fr, ρ, M, r, s, p⟩ => ?_
  exact chain_go ⟨μ, Hf, Fr, ρ, M, r, s, post_asB p⟩

/-! ### arguments, displays -/
@[simp] def aNil : FA := fun _ M => .ok [] M
@[simp] def aCons (f : FE) (g : FA) : FA := fun ρ M => (f ρ M).bind fun x M1 => (g ρ M1).bind fun xs M2 => .ok (x :: xs) M2
variable {fg : FA}
theorem da_nil : DA X E [] aNil := pa_imp pa_nil fun σ H Q ⟨μ, Hf, Fr, ρ, M, r, s, p⟩ => p.now s _ .nil
theorem da_cons (ha : DE X E e F) (hr : DA X E es fg) (hs : starEach (e :: es) X.env = (false, eval e X.env) :: starEach es X.env := by rfl) : DA X E (e :: es) (aCons F fg) := by
  refine pa_imp (pa_cons ha hr hs) fun σ H Q ⟨μ, Hf, Fr, ρ, M, r, s, p⟩ => ?_
  refine ⟨μ, Hf, Fr, ρ, M, r, s, p.split.weak fun x μ1 Hf1 H1 M1 e1 m1 s1 p1 v1 r1 => ?_⟩
  refine ⟨μ1, Hf1, Fr, ρ, M1, r.mono e1 m1, s1, p1.split.weak fun xs μ2 Hf2 H2 M2 e2 m2 s2 p2 vs rs => ?_⟩
  exact p2.now s2 _ (.cons (Rep.mono e2 m2 _ _ r1) rs)
@[simp] def eTup (g : FA) : FE := fun ρ M => (g ρ M).bind fun xs M1 => if xs.length ≤ lineD then .ok (.tup xs) M1 else .no
@[simp] def eLst (g : FA) : FE := fun ρ M => (g ρ M).bind fun xs M1 => if xs.length ≤ lineD then .ok (.lst xs) M1 else .no
@[simp] def eLoc (g : FA) : FE := fun ρ M => (g ρ M).bind fun xs M1 => if xs.length ≤ lineD then .ok (.loc M1.length) (M1 ++ [some xs]) else .no
theorem de_tup {x1} (h : DA X E es fg) : DE X E (.Tuple es x1 pos) (eTup fg) := by
  refine pe_imp (pe_tup h) fun σ H Q ⟨μ, Hf, Fr, ρ, M, r, s, p⟩ => ?_
  refine ⟨μ, Hf, Fr, ρ, M, r, s, p.split.weak fun xs μ1 Hf1 H1 M1 e1 m1 s1 p1 vs rs => ?_⟩
  split at p1
  · rename_i hz
    exact ⟨line_le (by rw [rs.length]; exact hz), fun q hq => p1.new s1 hq fun e => rep_tup rs e⟩
  · exact p1.elim
theorem de_lst (h : DA X E es fg) : DE X E (.List es pos) (eLst fg) := by
  refine pe_imp (pe_lst h) fun σ H Q ⟨μ, Hf, Fr, ρ, M, r, s, p⟩ => ?_
  refine ⟨μ, Hf, Fr, ρ, M, r, s, p.split.weak fun xs μ1 Hf1 H1 M1 e1 m1 s1 p1 vs rs => ?_⟩
  split at p1
  · rename_i hz
    exact ⟨line_le (by rw [rs.length]; exact hz), fun q hq => p1.new s1 hq fun e => rep_lst rs e⟩
  · exact p1.elim
/-- a new list handed out as one that may change -/
theorem Post.newLoc {K : Kf} {M : Mem} {μ : List Addr} {Hf Fr H : Hp} {Q : VK} {vs : List V} {ds : List D} (p : Post K E (.ok (.loc M.length) (M ++ [some ds])) μ Hf Fr (kD K Q)) (s : SR K μ Hf Fr H M) {q : Addr} (hq : H q = none)
    (r : RepAll K μ Hf vs ds) : Q (.ref q) (upd H q (.lst vs)) := by
  obtain ⟨s', e⟩ := s.grow hq r
  exact p _ Hf (μ ++ [q]) (Same.refl _) (List.prefix_append _ _) s' _ (.loc e)
theorem de_loc (h : DA X E es fg) : DE X E (.List es pos) (eLoc fg) := by
  refine pe_imp (pe_lst h) fun σ H Q ⟨μ, Hf, Fr, ρ, M, r, s, p⟩ => ?_
  refine ⟨μ, Hf, Fr, ρ, M, r, s, p.split.weak fun xs μ1 Hf1 H1 M1 e1 m1 s1 p1 vs rs => ?_⟩
  split at p1
  · rename_i hz
    exact ⟨line_le (by rw [rs.length]; exact hz), fun q hq => p1.newLoc s1 hq rs⟩
  · exact p1.elim
/-- a changing list becomes data -/
@[simp] def eSeal (F : FE) : FE := fun ρ M => (F ρ M).bind fun d M1 => match d with
  | .loc n => match M1[n]? with
    | some (some xs) => .ok (.lst xs) (M1.set n none)
    | _ => .no
  | _ => .no
theorem de_seal (h : DE X E e F) : DE X E e (eSeal F) := by
  refine pe_imp h fun σ H Q ⟨μ, Hf, Fr, ρ, M, r, s, p⟩ => ?_
  refine ⟨μ, Hf, Fr, ρ, M, r, s, p.split.weak fun d μ1 Hf1 H1 M1 e1 m1 s1 p1 v r1 => ?_⟩
  split at p1
  · cases r1 with
    | loc q =>
      split at p1
      · rename_i xs hM
        obtain ⟨Hf2, e2, s2, r2⟩ := s1.seal hM q
        exact p1 H1 Hf2 μ1 e2 (List.prefix_refl _) s2 _ r2
      · exact p1.elim
  · exact p1.elim

/-! ### calls of built-ins -/
abbrev GA := List D → Mem → Out D
def rA (K : Kf) (E : XK) (g : GA) : List V → Hp → VK → Prop := fun vs H Q => ∃ μ Hf Fr M ds, RepAll K μ Hf vs ds ∧ SR K μ Hf Fr H M ∧ Post K E (g ds M) μ Hf Fr (kD K Q)
@[simp] def eApp (g : GA) (fg : FA) : FE := fun ρ M => (fg ρ M).bind g
theorem app_go {K : Kf} {g : GA} {σ : L2.St} {H : Hp} {Q : VK} (h : teF K E (eApp g fg) σ H Q) : taF K E fg σ H (fun vs H1 => rA K E g vs H1 Q) := by
  obtain ⟨μ, Hf, Fr, ρ, M, r, s, p⟩ := h
  exact ⟨μ, Hf, Fr, ρ, M, r, s, p.split.weak fun xs μ1 Hf1 H1 M1 e1 m1 s1 p1 vs rs => ⟨μ1, Hf1, Fr, M1, xs, rs, s1, p1⟩⟩
theorem de_bi {x : Str} {p : Pos} {id : String} {g : GA} (hc : CallR X (.builtin id) (rA X.K E g)) (hg : Gl X x) (hm : X.mg x = none) (hv : bootBuiltins x = some (.builtin id)) (ha : DA X E (e :: es) fg) (hn : x ≠ "__name__" := by decide) (hdb : (x == ("__debug__" : Str)) = false := by decide)
    (he : starEach (e :: es) X.env = (false, eval e X.env) :: starEach es X.env := by rfl) (hpl : (backTo pos (starEach es X.env)).any (·.1) = false := by rfl) : DE X E (.Call (.Name x p) (e :: es) [] pos) (eApp g fg) :=
  pe_imp (pe_callB hc hg hm hv ha hn hdb he hpl) fun _ _ _ h => app_go h
theorem de_bt {x : Str} {p : Pos} {T : String} {g : GA} (hc : CallR X (.type T) (rA X.K E g)) (hg : Gl X x) (hm : X.mg x = none) (hv : bootBuiltins x = some (.type T)) (ha : DA X E (e :: es) fg) (hn : x ≠ "__name__" := by decide) (hdb : (x == ("__debug__" : Str)) = false := by decide)
    (he : starEach (e :: es) X.env = (false, eval e X.env) :: starEach es X.env := by rfl) (hpl : (backTo pos (starEach es X.env)).any (·.1) = false := by rfl) : DE X E (.Call (.Name x p) (e :: es) [] pos) (eApp g fg) :=
  pe_imp (pe_callTy hc hg hm hv ha hn hdb he hpl) fun _ _ _ h => app_go h
theorem callr_imp {f : Value} {r r' : List V → Hp → VK → Prop} (h : CallR X f r) (i : ∀ vs H Q, r' vs H Q → r vs H Q) : CallR X f r' := fun pins s σ H xs us Q I rx q => h pins s σ H xs us Q I rx (i xs H Q q)
theorem callr_or {f : Value} {r r' : List V → Hp → VK → Prop} (h : CallR X f r) (h' : CallR X f r') : CallR X f (fun xs H Q => r xs H Q ∨ r' xs H Q) := h.or h'
/-- the items of a list or a tuple -/
@[simp] def itemsD (d : D) (M : Mem) : Option (List D) := match d with
  | .lst xs => some xs
  | .scr xs => some xs
  | .loc n => match M[n]? with
    | some (some xs) => some xs
    | _ => none
  | _ => none
theorem items_of {K : Kf} {μ : List Addr} {Hf Fr H : Hp} {M : Mem} {v : V} {d : D} {ds : List D} (s : SR K μ Hf Fr H M) (r : Rep K μ Hf v d) (h : itemsD d M = some ds) : ∃ a vs, v = .ref a ∧ SqL K H a vs ∧ RepAll K μ Hf vs ds := by
  unfold itemsD at h
  split at h
  · cases h
    cases r with
    | lst q t => exact ⟨_, _, rfl, SqL.of (s.ex _ _ q), t⟩
  · cases h
    cases r with
    | scr q t => exact ⟨_, _, rfl, same_l s.ex q, t⟩
  · cases r with
    | loc q =>
      split at h
      · rename_i xs hM
        cases h
        obtain ⟨a, vs, h1, h2, h3, h4, h5⟩ := s.cell _ _ hM
        rw [q] at h1; cases h1
        exact ⟨_, _, rfl, SqL.of h4, h5⟩
      · cases h
  · cases h
@[simp] def gLen : GA := fun ds M => match ds with
  | [.str y] => if y.length ≤ lineD then .ok (.int y.length) M else .no
  | [.tup xs] => .ok (.int xs.length) M
  | [d] => match itemsD d M with
    | some xs => .ok (.int xs.length) M
    | none => .no
  | _ => .no
theorem c_len : CallR X (.builtin "len") (rA X.K E gLen) := by
  refine callr_imp call_len fun vs H Q ⟨μ, Hf, Fr, M, ds, rs, s, p⟩ => ?_
  unfold gLen at p
  split at p
  · cases rs with
    | cons r t =>
      cases r; cases t
      split at p
      · rename_i hz; exact ⟨_, _, rfl, ⟨line_le hz, rfl⟩, p.now s _ (.int _)⟩
      · exact p.elim
  · cases rs with
    | cons r t =>
      cases t
      cases r with
      | tup q t => exact ⟨_, _, rfl, .inr ⟨_, same_t s.ex q, rfl⟩, p.now s _ (by rw [t.length]; exact .int _)⟩
  · split at p
    · rename_i xs hx
      cases rs with
      | cons r t =>
        cases t
        obtain ⟨a, vs, rfl, q, t⟩ := items_of s r hx
        exact ⟨_, _, rfl, .inl ⟨_, q, rfl⟩, p.now s _ (by rw [t.length]; exact .int _)⟩
    · exact p.elim
  · exact p.elim
@[simp] def gAbs : GA := fun ds M => match ds with
  | [.int i] => .ok (.int (if i < 0 then -i else i)) M
  | _ => .no
theorem c_abs : CallR X (.builtin "abs") (rA X.K E gAbs) := by
  refine callr_imp call_abs fun vs H Q ⟨μ, Hf, Fr, M, ds, rs, s, p⟩ => ?_
  unfold gAbs at p
  split at p
  · cases rs with
    | cons r t => cases r; cases t; exact ⟨_, rfl, p.now s _ (.int _)⟩
  · exact p.elim
@[simp] def gMax : GA := fun ds M => match ds with
  | [.int i, .int j] => .ok (.int (if j > i then j else i)) M
  | _ => .no
@[simp] def gMin : GA := fun ds M => match ds with
  | [.int i, .int j] => .ok (.int (if j < i then j else i)) M
  | _ => .no
theorem c_max (hc : X.calm = true) : CallR X (.builtin "max") (rA X.K E gMax) := by
  refine callr_imp (call_max2 hc) fun vs H Q ⟨μ, Hf, Fr, M, ds, rs, s, p⟩ => ?_
  unfold gMax at p
  split at p
  · cases rs with
    | cons r t =>
      cases r
      cases t with
      | cons r t => cases r; cases t; exact ⟨_, _, rfl, p.now s _ (.int _)⟩
  · exact p.elim
theorem c_min (hc : X.calm = true) : CallR X (.builtin "min") (rA X.K E gMin) := by
  refine callr_imp (call_min2 hc) fun vs H Q ⟨μ, Hf, Fr, M, ds, rs, s, p⟩ => ?_
  unfold gMin at p
  split at p
  · cases rs with
    | cons r t =>
      cases r
      cases t with
      | cons r t => cases r; cases t; exact ⟨_, _, rfl, p.now s _ (.int _)⟩
  · exact p.elim
@[simp] def gInt : GA := fun ds M => match ds with
  | [.int i] => .ok (.int i) M
  | [.bl k] => .ok (.int (if k then 1 else 0)) M
  | _ => .no
theorem c_int : CallR X (.type "int") (rA X.K E gInt) := by
  refine callr_imp call_int1 fun vs H Q ⟨μ, Hf, Fr, M, ds, rs, s, p⟩ => ?_
  unfold gInt at p
  split at p
  · cases rs with
    | cons r t => cases r; cases t; exact .inl ⟨_, rfl, p.now s _ (.int _)⟩
  · cases rs with
    | cons r t => cases r; cases t; exact .inr ⟨_, rfl, p.now s _ (.int _)⟩
  · exact p.elim
def bls? : List D → Option (List Bool)
  | [] => some []
  | .bl b :: ds => (bls? ds).map (b :: ·)
  | _ => none
theorem bls_of : ∀ {ds : List D} {bs : List Bool}, bls? ds = some bs → ds = bs.map D.bl
  | [], bs, h => by cases h; rfl
  | .bl b :: ds, bs, h => by
    unfold bls? at h
    cases e : bls? ds with
    | none => rw [e] at h; cases h
    | some cs => rw [e] at h; cases h; rw [List.map_cons, bls_of e]
  | .non :: _, _, h => by cases h
  | .int _ :: _, _, h => by cases h
  | .str _ :: _, _, h => by cases h
  | .ty _ :: _, _, h => by cases h
  | .fn _ :: _, _, h => by cases h
  | .lst _ :: _, _, h => by cases h
  | .tup _ :: _, _, h => by cases h
  | .scr _ :: _, _, h => by cases h
  | .dct _ _ :: _, _, h => by cases h
  | .loc _ :: _, _, h => by cases h
def gAll (f : List Bool → Bool) : GA := fun ds M => match ds with
  | [.lst xs] => match bls? xs with
    | some bs => .ok (.bl (f bs)) M
    | none => .no
  | _ => .no
theorem c_all (hc : X.calm = true) : CallR X (.builtin "all") (rA X.K E (gAll fun bs => bs.all id)) := by
  refine callr_imp (cr_all hc) fun vs H Q ⟨μ, Hf, Fr, M, ds, rs, s, p⟩ => ?_
  unfold gAll at p
  split at p
  · split at p
    · rename_i bs hb
      cases rs with
      | cons r t =>
        cases t
        cases r with
        | lst q t =>
          rw [bls_of hb] at t
          exact ⟨_, bs, rfl, by rw [← t.bls]; exact SqL.of (s.ex _ _ q), p.now s _ (.bl _)⟩
    · exact p.elim
  · exact p.elim
/-- isinstance with a built-in class -/
@[simp] def tyD : D → Option String
  | .non => some "NoneType" | .bl _ => some "bool" | .int _ => some "int" | .str _ => some "str"
  | .lst _ => some "list" | .scr _ => some "list" | .tup _ => some "tuple" | .dct _ _ => some "dict" | _ => none
def tyS : List String := ["NoneType", "bool", "int", "str", "list", "tuple", "dict"]
def isiB (a b : String) : Bool := a == b || (a == "bool" && b == "int")
theorem kit_tab : ∀ a ∈ tyS, ∀ b ∈ tyS, kitB a b = some (isiB a b) := by decide +kernel
theorem tyD_mem {d : D} {t : String} (h : tyD d = some t) : t ∈ tyS := by
  cases d <;> cases h <;> decide +kernel
theorem tyD_of {K : Kf} {μ : List Addr} {Hf Fr H : Hp} {M : Mem} {v : V} {d : D} {t : String} (s : SR K μ Hf Fr H M) (r : Rep K μ Hf v d) (h : tyD d = some t) : TyX K H v (.type t) := by
  cases r with
  | non => cases h; exact .base .non
  | bl b => cases h; exact .base (.bl b)
  | int i => cases h; exact .base (.int i)
  | str x => cases h; exact .base (.str x)
  | ty n => cases h
  | fn a => cases h
  | lst q t => cases h; exact .base (.lst (s.ex _ _ q))
  | scr q t =>
    cases h
    rcases same_l s.ex q with (z | ⟨o, z⟩) | ⟨o, its, n, z, c, _⟩
    · exact .base (.lst z)
    · exact .base (.frz z)
    · exact .kList z c
  | tup q t =>
    cases h
    rcases same_t s.ex q with (z | ⟨o, z⟩) | ⟨o, its, n, z, c, _⟩
    · exact .base (.tup z)
    · exact .fTuple z
    · exact .kTuple z c
  | dct q k t => cases h; exact .base (.dK (s.ex _ _ q))
  | loc q => cases h
@[simp] def gIsi : GA := fun ds M => match ds with
  | [d, .ty n] => if n ∈ tyS then match tyD d with
    | some t => .ok (.bl (isiB t n)) M
    | none => .no
    else .no
  | _ => .no
end
end Den
namespace Den
open PySem PySem.Spec PyProof.Rows L2
section
variable {X : Cx} {E : XK} {a b c e o : Expr} {es rest : List Expr} {fa fb fc F : FE} {ft fu : FT} {fg : FA} {pos : Pos}
theorem c_isi : CallR X (.builtin "isinstance") (rA X.K E gIsi) := by
  refine callr_imp call_isi fun vs H Q ⟨μ, Hf, Fr, M, ds, rs, s, p⟩ => ?_
  unfold gIsi at p
  split at p
  · split at p
    · rename_i hn
      split at p
      · rename_i t ht
        cases rs with
        | cons r t2 =>
          cases t2 with
          | cons r2 t3 =>
            cases r2; cases t3
            exact ⟨_, _, _, _, _, rfl, .ty _, tyD_of s r ht, kit_ty (kit_tab _ (tyD_mem ht) _ hn), p.now s _ (.bl _)⟩
      · exact p.elim
    · exact p.elim
  · exact p.elim
/-! ### repr -/
def reprOk (y : PyData) : Bool := y.showable && !y.hasDict && decide (y.depth ≤ 60) && decide (y.shown.length ≤ lineD)
@[simp] def gRepr : GA := fun ds M => match ds with
  | [d] => match toPy d with
    | some y => if reprOk y = true then .ok (.str y.shown) M else .no
    | none => .no
  | _ => .no
theorem c_repr (hg : X.A.guards = some []) (hu : X.A.units + 64 < cLine) : CallR X (.builtin "repr") (rA X.K E gRepr) := by
  intro pins s σ H xs us Q I rv ⟨μ, Hf, Fr, M, ds, rs, sr, p⟩
  unfold gRepr at p
  split at p
  · rename_i d
    split at p
    · rename_i y hy
      split at p
      · rename_i ho
        unfold reprOk at ho
        simp only [Bool.and_eq_true, decide_eq_true_eq, Bool.not_eq_true'] at ho
        obtain ⟨⟨⟨h1, h2⟩, h3⟩, h4⟩ := ho
        cases rs with
        | cons r t =>
          cases t
          obtain ⟨u, rfl, ru⟩ := vals1 rv
          have fin : ∀ tk tk2, EP X pins σ Q (.str y.shown tk) { s with toks := tk2 } := fun tk tk2 => ⟨.str _, H, I.tok _, ⟨tk, rfl⟩, p.now sr _ (.str _)⟩
          have dp := r.dp sr.ex _ _ _ hy
          obtain ⟨as, rd⟩ := Dp.reads I y _ _ dp ru
          cases dp with
          | non => cases ru; exact PySem.P.repr_of_none (by have := fin s.toks (s.toks + 1); simpa [PyData.shown] using this)
          | bl b => cases ru; exact PySem.P.repr_of_bool (by have := fin s.toks (s.toks + 1); simpa [PyData.shown] using this)
          | int i =>
            obtain ⟨t, rfl⟩ := ru
            refine PySem.P.repr_of_int (by simpa [PyData.showable] using h1) (by have := fin s.toks (s.toks + 1); simpa [PyData.shown] using this)
          | str x =>
            obtain ⟨t, rfl⟩ := ru
            refine PySem.P.repr_of_str (by have := fin s.toks (s.toks + 1); simpa [PyData.shown] using this) (by have := line_le h4; simpa [PyData.shown] using this)
          | lst _ _ =>
            cases ru
            refine repr_of_reads' rd h1 (fun z => absurd z (by rw [h2]; decide)) hg (by omega) (fun _ _ e => e) (fun h' u tk hk => ?_) (line_le h4)
            exact ⟨.str _, H, I.kept (t' := tk) hk, ⟨u, rfl⟩, p.now sr _ (.str _)⟩
          | tup _ _ =>
            cases ru
            refine repr_of_reads' rd h1 (fun z => absurd z (by rw [h2]; decide)) hg (by omega) (fun _ _ e => e) (fun h' u tk hk => ?_) (line_le h4)
            exact ⟨.str _, H, I.kept (t' := tk) hk, ⟨u, rfl⟩, p.now sr _ (.str _)⟩
      · exact p.elim
    · exact p.elim
  · exact p.elim

/-! ### an item, a cut -/
def signs (z : Str) : List D := z.cps.toList.map fun c => D.str ⟨#[c]⟩
@[simp] def gIx : G2 := fun x y M => match x, y with
  | .tup xs, .int i => match atI xs i with
    | some d => .ok d M
    | none => .no
  | .str z, .int i => if z.length ≤ lineD then match atI z.cps.toList i with
    | some c => .ok (.str ⟨#[c]⟩) M
    | none => .no
    else .no
  | d, .int i => match itemsD d M with
    | some xs => match atI xs i with
      | some d => .ok d M
      | none => .no
    | none => .no
  | _, _ => .no
theorem atI_rep {K : Kf} {μ : List Addr} {H : Hp} {vs : List V} {ds : List D} {i : Int} {d : D} (r : RepAll K μ H vs ds) (h : atI ds i = some d) : ∃ v, atI vs i = some v ∧ Rep K μ H v d := by
  unfold atI at h ⊢
  rw [r.length]
  cases e : ixN ds.length i with
  | none => rw [e] at h; cases h
  | some j =>
    rw [e] at h
    exact r.at h
theorem ixr_imp {r r' : R2} (h : IxR X r) (i : ∀ x y H Q, r' x y H Q → r x y H Q) : IxR X r' := by
  intro z1 z2 pins s σ H x y v u Q I rx ry q
  exact h z1 z2 pins s σ H x y v u Q I rx ry (i _ _ _ _ q)
theorem x_ix : IxR X (rD2 X.K E gIx) := by
  refine ixr_imp ix_seq fun x y H Q h => ?_
  obtain ⟨μ, Hf, Fr, M, d1, d2, r1, r2, sr, p⟩ := h
  unfold gIx at p
  split at p
  · cases r2
    split at p
    · rename_i d hd
      cases r1 with
      | tup q t =>
        obtain ⟨w, h1, h2⟩ := atI_rep t hd
        exact .inr (.inl ⟨_, _, _, w, rfl, rfl, same_t sr.ex q, h1, p.now sr _ h2⟩)
    · exact p.elim
  · cases r1; cases r2
    split at p
    · rename_i hz
      split at p
      · rename_i cc hc
        exact .inr (.inr ⟨_, _, cc, rfl, rfl, line_le hz, hc, p.now sr _ (.str _)⟩)
      · exact p.elim
    · exact p.elim
  · cases r2
    split at p
    · rename_i xs hx
      split at p
      · rename_i d hd
        obtain ⟨a, vs, rfl, q, t⟩ := items_of sr r1 hx
        obtain ⟨w, h1, h2⟩ := atI_rep t hd
        exact .inl ⟨_, _, _, w, rfl, rfl, q, h1, p.now sr _ h2⟩
      · exact p.elim
    · exact p.elim
  · exact p.elim
theorem de_ix (ha : DE X E a fa) (hb : DE X E b fb) (hs : PlainIx b := by exact fun _ _ => rfl) : DE X E (.Subscript a b pos) (eTwo gIx fa fb) :=
  pe_imp (pe_ix x_ix ha hb hs) fun _ _ _ h => two_go h
abbrev FO := Ro → Mem → Out (Option Int)
def toF (K : Kf) (E : XK) (F : FO) : TO := fun σ H Q => ∃ μ Hf Fr ρ M, ERep K μ Hf σ ρ ∧ SR K μ Hf Fr H M ∧ Post K E (F ρ M) μ Hf Fr (fun i _ _ H' _ => Q i H')
abbrev DO (X : Cx) (E : XK) (e : Option Expr) (F : FO) : Prop := PO X e (toF X.K E F)
theorem po_imp {eo : Option Expr} {t t' : TO} (h : PO X eo t) (i : ∀ σ H Q, t' σ H Q → t σ H Q) : PO X eo t' := ⟨fun pins s σ H Q I q => h.run pins s σ H Q I (i σ H Q q)⟩
@[simp] def oNo : FO := fun _ M => .ok none M
@[simp] def oSo (F : FE) : FO := fun ρ M => (F ρ M).bind fun d M1 => match d with
  | .int i => .ok (some i) M1
  | _ => .no
theorem do_none : DO X E none oNo := po_imp po_none fun σ H Q ⟨μ, Hf, Fr, ρ, M, r, s, p⟩ => p.now s
theorem do_some (h : DE X E e F) : DO X E (some e) (oSo F) := by
  refine po_imp (po_some h) fun σ H Q ⟨μ, Hf, Fr, ρ, M, r, s, p⟩ => ?_
  refine ⟨μ, Hf, Fr, ρ, M, r, s, p.split.weak fun d μ1 Hf1 H1 M1 e1 m1 s1 p1 v r1 => ?_⟩
  split at p1
  · cases r1; exact ⟨_, rfl, p1.now s1⟩
  · exact p1.elim
def cutD {α : Type} (xs : List α) (lo hi : Option Int) : List α := (xs.drop (HT.sIx xs.length 0 lo)).take (HT.sIx xs.length xs.length hi - HT.sIx xs.length 0 lo)
theorem cut_rep {K : Kf} {μ : List Addr} {H : Hp} {vs : List V} {ds : List D} {lo hi : Option Int} (r : RepAll K μ H vs ds) : RepAll K μ H (cutV vs lo hi) (cutD ds lo hi) := by
  unfold cutV cutD
  rw [r.length]
  exact (r.drop _).take _
@[simp] def gCut (x : D) (lo hi : Option Int) : Mem → Out D := fun M => match x with
  | .str z => if z.length ≤ lineD then .ok (.str (cutS z lo hi)) M else .no
  | .tup xs => .ok (.tup (cutD xs lo hi)) M
  | d => match itemsD d M with
    | some xs => .ok (.lst (cutD xs lo hi)) M
    | none => .no
@[simp] def eCut (F : FE) (f g : FO) : FE := fun ρ M => (F ρ M).bind fun x M1 => (f ρ M1).bind fun lo M2 => (g ρ M2).bind fun hi M3 => gCut x lo hi M3
def rCut (K : Kf) (E : XK) : V → Option Int → Option Int → Hp → VK → Prop := fun x lo hi H Q => ∃ μ Hf Fr M d, Rep K μ Hf x d ∧ SR K μ Hf Fr H M ∧ Post K E (gCut d lo hi M) μ Hf Fr (kD K Q)
theorem cut_whole {α : Type} (xs : List α) (lo hi : Option Int) (h : HT.sIx xs.length 0 lo = 0 ∧ HT.sIx xs.length xs.length hi = xs.length) : cutD xs lo hi = xs := by
  unfold cutD
  rw [h.1, h.2, List.drop_zero, Nat.sub_zero, List.take_length]
theorem s_cut : SlR X (rCut X.K E) := by
  intro pins s σ H x v vl vu lo hi sl Q I rx hs pl pu h
  refine (sl_list.or (sl_tupA.or sl_str)) pins s σ H x v vl vu lo hi sl Q I rx hs pl pu ?_
  obtain ⟨μ, Hf, Fr, M, d, r, sr, p⟩ := h
  unfold gCut at p
  split at p
  · cases r
    split at p
    · rename_i hz; exact .inr (.inr ⟨_, rfl, line_le hz, p.now sr _ (.str _)⟩)
    · exact p.elim
  · cases r with
    | tup q t =>
      refine .inr (.inl ⟨_, _, rfl, same_t sr.ex q, fun hw => ?_, fun _ l hl => ?_⟩)
      · rw [t.length] at hw
        refine p.now sr _ ?_
        rw [cut_whole _ _ _ hw]
        exact .tup q t
      · exact p.new sr hl fun e => rep_tup (cut_rep t) e
  · split at p
    · rename_i xs hx
      obtain ⟨a, vs, rfl, q, t⟩ := items_of sr r hx
      exact .inl ⟨_, _, rfl, q, fun l hl => p.new sr hl fun e => rep_lst (cut_rep t) e⟩
    · exact p.elim
theorem de_cut {p2 : Pos} {lo hi : Option Expr} {fl fh : FO} (he : DE X E e F) (hl : DO X E lo fl) (hu : DO X E hi fh) : DE X E (.Subscript e (.Slice lo hi none p2) pos) (eCut F fl fh) := by
  refine pe_imp (pe_slice (s_cut (E := E)) he hl hu) fun σ H Q ⟨μ, Hf, Fr, ρ, M, r, s, p⟩ => ?_
  refine ⟨μ, Hf, Fr, ρ, M, r, s, p.split.weak fun x μ1 Hf1 H1 M1 e1 m1 s1 p1 v1 r1 => ?_⟩
  refine ⟨μ1, Hf1, Fr, ρ, M1, r.mono e1 m1, s1, p1.split.weak fun lo μ2 Hf2 H2 M2 e2 m2 s2 p2 => ?_⟩
  refine ⟨μ2, Hf2, Fr, ρ, M2, (r.mono e1 m1).mono e2 m2, s2, p2.split.weak fun hi μ3 Hf3 H3 M3 e3 m3 s3 p3 => ?_⟩
  exact ⟨μ3, Hf3, Fr, M3, x, Rep.mono e3 m3 _ _ (Rep.mono e2 m2 _ _ r1), s3, p3⟩

/-! ### methods of built-in values -/
def strs? : List D → Option (List Str)
  | [] => some []
  | .str b :: ds => (strs? ds).map (b :: ·)
  | _ => none
theorem strs_of : ∀ {ds : List D} {bs : List Str}, strs? ds = some bs → ds = bs.map D.str
  | [], bs, h => by cases h; rfl
  | .str b :: ds, bs, h => by
    unfold strs? at h
    cases e : strs? ds with
    | none => rw [e] at h; cases h
    | some cs => rw [e] at h; cases h; rw [List.map_cons, strs_of e]
  | .non :: _, _, h => by cases h
  | .int _ :: _, _, h => by cases h
  | .bl _ :: _, _, h => by cases h
  | .ty _ :: _, _, h => by cases h
  | .fn _ :: _, _, h => by cases h
  | .lst _ :: _, _, h => by cases h
  | .tup _ :: _, _, h => by cases h
  | .scr _ :: _, _, h => by cases h
  | .dct _ _ :: _, _, h => by cases h
  | .loc _ :: _, _, h => by cases h
@[simp] def gJoin : G2 := fun x y M => match x with
  | .str a => match itemsD y M with
    | some xs => match strs? xs with
      | some ys => if (ys.map (·.length)).sum + ys.length * a.length ≤ lineD then .ok (.str (Txt.join a ys)) M else .no
      | none => .no
    | none => .no
  | _ => .no
theorem de_join {apos : Pos} (ho : DE X E o fa) (he : DE X E e fb) (hs : starEach [e] X.env = [(false, eval e X.env)] := by rfl) (hbase : attributeBase o "join" X.env (eval o X.env) = eval o X.env := by rfl) (hline : (apos.endLine == pos.line) = true := by rfl) :
    DE X E (.Call (.Attribute o "join" apos) [e] [] pos) (fun ρ M => (fa ρ M).bind fun x M1 => match x with
      | .str _ => (fb ρ M1).bind fun y M2 => gJoin x y M2
      | _ => .no) := by
  refine pe_imp (pe_join ho he hs hbase hline) fun σ H Q ⟨μ, Hf, Fr, ρ, M, r, s, p⟩ => ?_
  refine ⟨μ, Hf, Fr, ρ, M, r, s, p.split.weak fun x μ1 Hf1 H1 M1 e1 m1 s1 p1 v1 r1 => ?_⟩
  split at p1
  · cases r1
    refine ⟨⟨_, rfl⟩, μ1, Hf1, Fr, ρ, M1, r.mono e1 m1, s1, p1.split.weak fun y μ2 Hf2 H2 M2 e2 m2 s2 p2 v2 r2 => ?_⟩
    unfold gJoin at p2
    dsimp only at p2
    split at p2
    · rename_i xs hx
      split at p2
      · rename_i ys hy
        split at p2
        · rename_i hz
          obtain ⟨a, vs, rfl, q, t⟩ := items_of s2 r2 hx
          rw [strs_of hy] at t
          have e3 := t.strs
          subst e3
          exact ⟨_, _, ys, rfl, rfl, .inl q, Nat.le_trans hz (by rw [lineD_eq]; decide), p2.now s2 _ (.str _)⟩
        · exact p2.elim
      · exact p2.elim
    · exact p2.elim
  · exact p1.elim
end
end Den
namespace Den
open PySem PySem.Spec PyProof.Rows L2
section
variable {X : Cx} {E : XK} {a b c e o : Expr} {es rest : List Expr} {fa fb fc F : FE} {ft fu : FT} {fg : FA} {pos : Pos}
/-! ### comparisons of numbers or of texts; in, not in -/
@[simp] def gOrd (p : Int → Int → Bool) (q : List Nat → List Nat → Bool) : G2 := fun x y M => match x, y with
  | .int i, .int j => .ok (.bl (p i j)) M
  | .str i, .str j => .ok (.bl (q i.cps.toList j.cps.toList)) M
  | _, _ => .no
theorem ord_go {p : Int → Int → Bool} {q : List Nat → List Nat → Bool} {x y : V} {H : Hp} {Q : VK} (h : rD2 X.K E (gOrd p q) x y H Q) :
    rI0 (fun i j => .bl (p i j)) x y H Q ∨ (∃ i j, x = .str i ∧ y = .str j ∧ Q (.bl (q i.cps.toList j.cps.toList)) H) := by
  obtain ⟨μ, Hf, Fr, M, d1, d2, r1, r2, s, z⟩ := h
  unfold gOrd at z
  split at z
  · cases r1; cases r2; exact .inl ⟨_, _, rfl, rfl, z.now s _ (.bl _)⟩
  · cases r1; cases r2; exact .inr ⟨_, _, rfl, rfl, z.now s _ (.bl _)⟩
  · exact z.elim
def gLt' : G2 := gOrd (fun i j => decide (i < j)) fun i j => decide (i < j)
@[simp] theorem gLt'_ap (x y : D) (M : Mem) : gLt' x y M = (gOrd (fun i j => decide (i < j)) fun i j => decide (i < j)) x y M := rfl
def gLe' : G2 := gOrd (fun i j => decide (i ≤ j)) fun i j => !decide (j < i)
@[simp] theorem gLe'_ap (x y : D) (M : Mem) : gLe' x y M = (gOrd (fun i j => decide (i ≤ j)) fun i j => !decide (j < i)) x y M := rfl
theorem o_lt : OpR X (compareOp .Lt) (rD2 X.K E gLt') := opr_imp (op_lt.or op_lt_str) fun _ _ _ _ h => ord_go h
theorem o_le : OpR X (compareOp .LtE) (rD2 X.K E gLe') := opr_imp (op_le.or op_le_str) fun _ _ _ _ h => ord_go h
@[simp] def toV : D → Option V
  | .non => some .non | .bl b => some (.bl b) | .int i => some (.int i) | .str x => some (.str x) | _ => none
@[simp] def toVs : List D → Option (List V)
  | [] => some []
  | d :: ds => match toV d, toVs ds with
    | some v, some vs => some (v :: vs)
    | _, _ => none
theorem toV_of {K : Kf} {μ : List Addr} {H : Hp} {v w : V} {d : D} (r : Rep K μ H v d) (h : toV d = some w) : v = w ∧ flatV w = true := by
  cases d <;> cases h <;> cases r <;> exact ⟨rfl, rfl⟩
theorem toVs_of {K : Kf} {μ : List Addr} {H : Hp} : ∀ {vs : List V} {ds : List D} {ws : List V}, RepAll K μ H vs ds → toVs ds = some ws → vs = ws ∧ ws.all flatV = true
  | _, [], ws, r, h => by cases r; cases h; exact ⟨rfl, rfl⟩
  | _, d :: ds, ws, r, h => by
    cases r with
    | cons r t =>
      unfold toVs at h
      cases h1 : toV d with
      | none => rw [h1] at h; cases h
      | some w =>
        cases h2 : toVs ds with
        | none => rw [h1, h2] at h; cases h
        | some us =>
          rw [h1, h2] at h; cases h
          obtain ⟨e1, f1⟩ := toV_of r h1
          obtain ⟨e2, f2⟩ := toVs_of t h2
          exact ⟨by rw [e1, e2], by rw [List.all_cons, f1, f2]; rfl⟩
@[simp] def gInS (f : Bool → Bool) : G2 := fun x y M => match x, y with
  | .str i, .str j => match i.cps.toList with
    | [c] => .ok (.bl (f (decide (c ∈ j.cps.toList)))) M
    | _ => .ok (.bl (f (!(Builtin.Str.occurrences j i 0 j.length 1).isEmpty))) M
  | d, .tup xs => match toV d, toVs xs with
    | some v, some vs => .ok (.bl (f (inV v vs))) M
    | _, _ => .no
  | d, l => match itemsD l M with
    | some xs => match toV d, toVs xs with
      | some v, some vs => .ok (.bl (f (inV v vs))) M
      | _, _ => .no
    | none => .no
theorem str_one {i : Str} {c : Nat} (h : i.cps.toList = [c]) : i = ⟨#[c]⟩ := by
  cases i with
  | mk a => cases a with
    | mk l => cases h; rfl
theorem o_in : OpR X (compareOp .In) (rD2 X.K E (gInS fun b => b)) := by
  refine opr_imp (op_in_sign.or (op_in_str.or op_in_seq)) fun x y H Q ⟨μ, Hf, Fr, M, d1, d2, r1, r2, s, p⟩ => ?_
  unfold gInS at p
  split at p
  · cases r1; cases r2
    split at p
    · rename_i c hc
      exact .inl ⟨c, _, by rw [str_one hc], rfl, p.now s _ (.bl _)⟩
    · exact .inr (.inl ⟨_, _, rfl, rfl, p.now s _ (.bl _)⟩)
  · split at p
    · rename_i v vs h1 h2
      cases r2 with
      | tup q t =>
        obtain ⟨e1, f1⟩ := toV_of r1 h1
        obtain ⟨e2, f2⟩ := toVs_of t h2
        subst e1; subst e2
        exact .inr (.inr ⟨_, _, rfl, .inr (same_t s.ex q), f1, f2, p.now s _ (.bl _)⟩)
    · exact p.elim
  · split at p
    · rename_i xs hx
      split at p
      · rename_i v vs h1 h2
        obtain ⟨a, us, rfl, q, t⟩ := items_of s r2 hx
        obtain ⟨e1, f1⟩ := toV_of r1 h1
        obtain ⟨e2, f2⟩ := toVs_of t h2
        subst e1; subst e2
        exact .inr (.inr ⟨_, _, rfl, .inl q, f1, f2, p.now s _ (.bl _)⟩)
      · exact p.elim
    · exact p.elim
theorem o_notIn : OpR X (compareOp .NotIn) (rD2 X.K E (gInS fun b => !b)) := by
  refine opr_imp (op_notIn_sign.or (op_notin_str.or op_notIn_seq)) fun x y H Q ⟨μ, Hf, Fr, M, d1, d2, r1, r2, s, p⟩ => ?_
  unfold gInS at p
  split at p
  · cases r1; cases r2
    split at p
    · rename_i c hc
      exact .inl ⟨c, _, by rw [str_one hc], rfl, p.now s _ (.bl _)⟩
    · exact .inr (.inl ⟨_, _, rfl, rfl, p.now s _ (.bl _)⟩)
  · split at p
    · rename_i v vs h1 h2
      cases r2 with
      | tup q t =>
        obtain ⟨e1, f1⟩ := toV_of r1 h1
        obtain ⟨e2, f2⟩ := toVs_of t h2
        subst e1; subst e2
        exact .inr (.inr ⟨_, _, rfl, .inr (same_t s.ex q), f1, f2, p.now s _ (.bl _)⟩)
    · exact p.elim
  · split at p
    · rename_i xs hx
      split at p
      · rename_i v vs h1 h2
        obtain ⟨a, us, rfl, q, t⟩ := items_of s r2 hx
        obtain ⟨e1, f1⟩ := toV_of r1 h1
        obtain ⟨e2, f2⟩ := toVs_of t h2
        subst e1; subst e2
        exact .inr (.inr ⟨_, _, rfl, .inl q, f1, f2, p.now s _ (.bl _)⟩)
      · exact p.elim
    · exact p.elim
/-- is True, is None -/
@[simp] def isNon : D → Bool
  | .non => true
  | _ => false
@[simp] def gIs (f : Bool → Bool) : G2 := fun x y M => match y with
  | .non => .ok (.bl (f (isNon x))) M
  | _ => .no
theorem rep_non {K : Kf} {μ : List Addr} {H : Hp} {v : V} {d : D} (r : Rep K μ H v d) : decide (v = .non) = isNon d := by
  cases r <;> simp [isNon]
theorem o_is : OpR X (compareOp .Is) (rD2 X.K E (gIs fun b => b)) := by
  refine opr_imp op_isN fun x y H Q ⟨μ, Hf, Fr, M, d1, d2, r1, r2, s, p⟩ => ?_
  unfold gIs at p
  split at p
  · cases r2; exact ⟨rfl, by rw [rep_non r1]; exact p.now s _ (.bl _)⟩
  · exact p.elim
theorem o_isnot : OpR X (compareOp .IsNot) (rD2 X.K E (gIs fun b => !b)) := by
  refine opr_imp op_notN fun x y H Q ⟨μ, Hf, Fr, M, d1, d2, r1, r2, s, p⟩ => ?_
  unfold gIs at p
  split at p
  · cases r2; exact ⟨rfl, by rw [rep_non r1]; exact p.now s _ (.bl _)⟩
  · exact p.elim

/-! ### targets -/
abbrev TgD := D → Ro → Option Ro
def tgF (K : Kf) (g : TgD) (sl : List Nat) : TG := fun v σ H Q => ∃ μ Hf ρ d ρ', Same Hf H ∧ ERep K μ Hf σ ρ ∧ Rep K μ Hf v d ∧ g d ρ = some ρ' ∧
  ∀ σ', ERep K μ Hf σ' ρ' → σ'.length = σ.length → (∀ j, j ∉ sl → σ'[j]? = σ[j]?) → Q σ' H
abbrev DG (X : Cx) (tg : Expr) (g : TgD) (sl : List Nat) : Prop := PG X tg (tgF X.K g sl)
theorem pg_imp {tg : Expr} {t t' : TG} (h : PG X tg t) (i : ∀ v σ H Q, t' v σ H Q → t v σ H Q) : PG X tg t' := ⟨fun pins s σ H v u Q I r q => h.run pins s σ H v u Q I r (i v σ H Q q)⟩
@[simp] def gNm (i : Nat) : TgD := fun d ρ => some (ρ.set i (some d))
theorem dg_name {i : Nat} {tg : Expr} (h : PG X tg (gName i)) : DG X tg (gNm i) [i] := by
  refine pg_imp h fun v σ H Q ⟨μ, Hf, ρ, d, ρ', e, r, rv, hg, k⟩ => ?_
  cases hg
  exact k _ (r.put i rv) (by rw [List.length_set]) fun j hj => by rw [List.getElem?_set_ne (fun z => hj (by simp [z]))]
/-- several names at once -/
@[simp] def gNms : List Nat → List D → Ro → Option Ro
  | [], [], ρ => some ρ
  | i :: is, d :: ds, ρ => gNms is ds (ρ.set i (some d))
  | _, _, _ => none
@[simp] def gTp (is : List Nat) : TgD := fun d ρ => match d with
  | .tup xs => gNms is xs ρ
  | _ => none
inductive DGs (X : Cx) : List Expr → List Nat → Prop
  | nil : DGs X [] []
  | cons {e : Expr} {es : List Expr} {i : Nat} {is : List Nat} : PG X e (gName i) → (assignEach (e :: es) X.env).map (·.2) = assign e X.env :: (assignEach es X.env).map (·.2) → DGs X es is → DGs X (e :: es) (i :: is)
def gAllT : List Nat → TGs
  | [] => gNil
  | i :: is => gCons (gName i) (gAllT is)
theorem DGs.pgs : ∀ {es : List Expr} {is : List Nat}, DGs X es is → PGs X es (gAllT is)
  | _, _, .nil => pgs_nil
  | _, _, .cons h hs t => pgs_cons h t.pgs hs
theorem gNms_go {K : Kf} {μ : List Addr} {Hf H : Hp} : ∀ (is : List Nat) {ds : List D} {vs : List V} {ρ ρ' : Ro} {σ : L2.St} {Q : L2.St → Hp → Prop}, RepAll K μ Hf vs ds → ERep K μ Hf σ ρ → gNms is ds ρ = some ρ' →
    (∀ σ', ERep K μ Hf σ' ρ' → σ'.length = σ.length → (∀ j, j ∉ is → σ'[j]? = σ[j]?) → Q σ' H) → gAllT is vs σ H Q
  | [], [], _, ρ, ρ', σ, Q, rv, r, h, k => by
    cases rv; cases h
    exact ⟨rfl, k σ r rfl fun _ _ => rfl⟩
  | i :: is, d :: ds, _, ρ, ρ', σ, Q, rv, r, h, k => by
    cases rv with
    | cons r1 rt =>
      refine ⟨_, _, rfl, ?_⟩
      refine gNms_go is rt (r.put i r1) h fun σ' r' hl hj => ?_
      refine k σ' r' (by rw [hl, List.length_set]) fun j hn => ?_
      rw [hj j fun z => hn (List.mem_cons_of_mem _ z), List.getElem?_set_ne fun z => hn (by simp [z])]
  | [], _ :: _, _, _, _, _, _, _, _, h, _ => by cases h
  | _ :: _, [], _, _, _, _, _, _, _, h, _ => by cases h
theorem gNms_len : ∀ {is : List Nat} {ds : List D} {ρ ρ' : Ro}, gNms is ds ρ = some ρ' → ds.length = is.length
  | [], [], _, _, _ => rfl
  | _ :: is, _ :: ds, ρ, ρ', h => congrArg Nat.succ (gNms_len (is := is) h)
  | [], _ :: _, _, _, h => by cases h
  | _ :: _, [], _, _, h => by cases h
theorem dg_tup {k : Nat} {is : List Nat} (hc : X.calm = true) (h : DGs X es is) (hn : (assignEach es X.env).length = is.length := by rfl) (hst : (assignEach es X.env).findIdx? (·.1) = none := by rfl) : DG X (.Tuple es k pos) (gTp is) is := by
  refine pg_imp (pg_tup hc h.pgs hn hst) fun v σ H Q ⟨μ, Hf, ρ, d, ρ', e, r, rv, hg, k⟩ => ?_
  unfold gTp at hg
  split at hg
  · cases rv with
    | tup q t => exact ⟨_, _, rfl, same_t e q, by rw [t.length]; exact gNms_len hg, gNms_go is t r hg k⟩
  · cases hg

/-! ### what is walked -/
def WalkD (K : Kf) (μ : List Addr) (Hf : Hp) (J : It) (xs : List D) : Prop :=
  (∀ i H, i < xs.length → Same Hf H → J.go i H) ∧ (∀ H, Same Hf H → J.stop xs.length H) ∧
    ∀ i μ1 Hf1 Fr H M v H', i < xs.length → Same Hf Hf1 → μ <+: μ1 → SR K μ1 Hf1 Fr H M → J.yld i H v H' → ∃ Hf2 d, Same Hf1 Hf2 ∧ SR K μ1 Hf2 Fr H' M ∧ xs[i]? = some d ∧ Rep K μ1 Hf2 v d
abbrev FI := Ro → Mem → Out (List D)
abbrev kI (K : Kf) (R : It → Hp → Prop) : List D → List Addr → Hp → Hp → Mem → Prop := fun xs μ' Hf' H' _ => ∀ J, WalkD K μ' Hf' J xs → R J H'
def tiF (K : Kf) (E : XK) (F : FI) : TI := fun σ H R => ∃ μ Hf Fr ρ M, ERep K μ Hf σ ρ ∧ SR K μ Hf Fr H M ∧ Post K E (F ρ M) μ Hf Fr (kI K R)
abbrev DI (X : Cx) (E : XK) (tg e : Expr) (F : FI) : Prop := PI X tg e (tiF X.K E F)
theorem pi_imp {tg : Expr} {t t' : TI} (h : PI X tg e t) (i : ∀ σ H Q, t' σ H Q → t σ H Q) : PI X tg e t' := ⟨fun pins s σ H R I q => h.run pins s σ H R I (i σ H R q)⟩
theorem pi_or {tg : Expr} {t t' : TI} (h : PI X tg e t) (h' : PI X tg e t') : PI X tg e (fun σ H R => t σ H R ∨ t' σ H R) := ⟨fun pins s σ H R I q => q.elim (h.run pins s σ H R I) (h'.run pins s σ H R I)⟩
def rangeD (lo hi : Int) : List D := (List.range (hi - lo).toNat).map fun (i : Nat) => D.int (lo + (i : Int))
theorem rangeD_len (lo hi : Int) : (rangeD lo hi).length = (hi - lo).toNat := by unfold rangeD; simp
theorem walk_rg {K : Kf} {μ : List Addr} {Hf : Hp} {lo hi : Int} {n : Nat} (hn : n = (hi - lo).toNat) : WalkD K μ Hf (Itr lo n) (rangeD lo hi) := by
  subst hn
  refine ⟨fun i H hi _ => by rw [rangeD_len] at hi; exact hi, fun H _ => by rw [rangeD_len]; exact Nat.le_refl _, fun i μ1 Hf1 Fr H M v H' hi e m s y => ?_⟩
  obtain ⟨rfl, rfl⟩ := y
  rw [rangeD_len] at hi
  exact ⟨Hf1, .int (lo + i), Same.refl _, s, by unfold rangeD; simp [hi], .int _⟩
@[simp] def gRg1 : List D → Mem → Out (List D) := fun ds M => match ds with
  | [.int n] => if -1000000000 ≤ n ∧ n ≤ 1000000000 then .ok (rangeD 0 n) M else .no
  | _ => .no
@[simp] def gRg2 : List D → Mem → Out (List D) := fun ds M => match ds with
  | [.int m, .int n] => if (-1000000000 ≤ m ∧ m ≤ 1000000000) ∧ -1000000000 ≤ n ∧ n ≤ 1000000000 then .ok (rangeD m n) M else .no
  | _ => .no
@[simp] def iRg1 (fg : FA) : FI := fun ρ M => (fg ρ M).bind gRg1
@[simp] def iRg2 (fg : FA) : FI := fun ρ M => (fg ρ M).bind gRg2
theorem di_range1 {tg : Expr} {p : Pos} (hg : Gl X "range") (hm : X.mg "range" = none) (ha : DA X E [a] fg) (hs : starEach [a] X.env = [(false, eval a X.env)] := by rfl) : DI X E tg (.Call (.Name "range" p) [a] [] pos) (iRg1 fg) := by
  refine pi_imp (pi_range1 hg hm ha hs) fun σ H Q ⟨μ, Hf, Fr, ρ, M, r, s, p⟩ => ?_
  refine ⟨μ, Hf, Fr, ρ, M, r, s, p.split.weak fun ds μ1 Hf1 H1 M1 e1 m1 s1 p1 vs rs => ?_⟩
  unfold gRg1 at p1
  split at p1
  · split at p1
    · rename_i n hz
      cases rs with
      | cons r1 t =>
        cases r1; cases t
        exact ⟨_, rfl, by omega, by omega, p1.now s1 _ (walk_rg (by rw [Int.sub_zero]))⟩
    · exact p1.elim
  · exact p1.elim
theorem di_range2 {tg : Expr} {p : Pos} (hg : Gl X "range") (hm : X.mg "range" = none) (ha : DA X E [a, b] fg) (hs : starEach [a, b] X.env = [(false, eval a X.env), (false, eval b X.env)] := by rfl) (hs2 : starEach [b] X.env = [(false, eval b X.env)] := by rfl) :
    DI X E tg (.Call (.Name "range" p) [a, b] [] pos) (iRg2 fg) := by
  refine pi_imp (pi_range2 hg hm ha hs hs2) fun σ H Q ⟨μ, Hf, Fr, ρ, M, r, s, p⟩ => ?_
  refine ⟨μ, Hf, Fr, ρ, M, r, s, p.split.weak fun ds μ1 Hf1 H1 M1 e1 m1 s1 p1 vs rs => ?_⟩
  unfold gRg2 at p1
  split at p1
  · split at p1
    · rename_i m n hz
      cases rs with
      | cons r1 t => cases t with
        | cons r2 t =>
          cases r1; cases r2; cases t
          exact ⟨_, _, rfl, ⟨by omega, by omega, by omega, by omega⟩, p1.now s1 _ (walk_rg rfl)⟩
    · exact p1.elim
  · exact p1.elim
/-- a list, a tuple, a text -/
@[simp] def itD (d : D) (M : Mem) : Out (List D) := match d with
  | .str z => .ok (signs z) M
  | .tup xs => .ok xs M
  | .lst xs => .ok xs M
  | .scr xs => .ok xs M
  | _ => .no
@[simp] def iVal (F : FE) : FI := fun ρ M => (F ρ M).bind itD
theorem walk_sl {K : Kf} {μ : List Addr} {Hf : Hp} {a : Addr} {vs : List V} {xs : List D} (q : SqL K Hf a vs) (t : RepAll K μ Hf vs xs) : WalkD K μ Hf (Itl K a) xs := by
  refine ⟨fun i H hi e => ?_, fun H e => ⟨vs, same_l e q, by rw [t.length]; exact Nat.le_refl _⟩, fun i μ1 Hf1 Fr H M v H' hi e m s y => ?_⟩
  · obtain ⟨v, h1, _⟩ := t.at (i := i) (d := xs[i]) (by simp [hi])
    exact ⟨vs, v, same_l e q, h1⟩
  · obtain ⟨rfl, y⟩ := y
    have h := y vs (same_l (e.trans s.ex) q)
    obtain ⟨d, h1, h2⟩ := t.atV h
    exact ⟨Hf1, d, Same.refl _, s, h1, Rep.mono e m _ _ h2⟩
theorem walk_st {K : Kf} {μ : List Addr} {Hf : Hp} {a : Addr} {vs : List V} {xs : List D} (q : SqT K Hf a vs) (t : RepAll K μ Hf vs xs) : WalkD K μ Hf (Itt K a) xs := by
  refine ⟨fun i H hi e => ?_, fun H e => ⟨vs, same_t e q, by rw [t.length]; exact Nat.le_refl _⟩, fun i μ1 Hf1 Fr H M v H' hi e m s y => ?_⟩
  · obtain ⟨v, h1, _⟩ := t.at (i := i) (d := xs[i]) (by simp [hi])
    exact ⟨vs, v, same_t e q, h1⟩
  · obtain ⟨rfl, y⟩ := y
    have h := y vs (same_t (e.trans s.ex) q)
    obtain ⟨d, h1, h2⟩ := t.atV h
    exact ⟨Hf1, d, Same.refl _, s, h1, Rep.mono e m _ _ h2⟩
theorem walk_ss {K : Kf} {μ : List Addr} {Hf : Hp} {z : Str} : WalkD K μ Hf (Its z) (signs z) := by
  have hl : (signs z).length = z.cps.size := by unfold signs; simp
  refine ⟨fun i H hi e => by rw [hl] at hi; exact hi, fun H e => by rw [hl]; exact Nat.le_refl _, fun i μ1 Hf1 Fr H M v H' hi e m s y => ?_⟩
  obtain ⟨rfl, c, hc, rfl⟩ := y
  refine ⟨Hf1, .str ⟨#[c]⟩, Same.refl _, s, ?_, .str _⟩
  unfold signs
  rw [List.getElem?_map, Array.getElem?_toList, hc]
  rfl
theorem di_val {tg : Expr} (h : DE X E e F) : DI X E tg e (iVal F) := by
  refine pi_imp (pi_or (pi_list h) (pi_or (pi_tup h) (pi_str h))) fun σ H Q ⟨μ, Hf, Fr, ρ, M, r, s, p⟩ => ?_
  have p' := p.split
  cases hF : F ρ M with
  | no => rw [hF] at p'; exact p'.elim
  | exc x M1 =>
    rw [hF] at p'
    exact .inl ⟨μ, Hf, Fr, ρ, M, r, s, by rw [hF]; exact p'⟩
  | ok d M1 =>
    rw [hF] at p'
    have up : ∀ {k : D → List Addr → Hp → Hp → Mem → Prop}, Post X.K E (.ok d M1) μ Hf Fr k → Post X.K E (F ρ M) μ Hf Fr k := fun q => by rw [hF]; exact q
    cases d with
    | str z => exact .inr (.inr ⟨μ, Hf, Fr, ρ, M, r, s, up fun H' Hf' μ' e m s' v rv => by cases rv; exact ⟨_, rfl, (p' H' Hf' μ' e m s').now s' _ walk_ss⟩⟩)
    | tup xs =>
      refine .inr (.inl ⟨μ, Hf, Fr, ρ, M, r, s, up fun H' Hf' μ' e m s' v rv => ?_⟩)
      cases rv with
      | tup q t => exact ⟨_, rfl, ⟨_, same_t s'.ex q⟩, (p' H' Hf' μ' e m s').now s' _ (walk_st q t)⟩
    | lst xs =>
      refine .inl ⟨μ, Hf, Fr, ρ, M, r, s, up fun H' Hf' μ' e m s' v rv => ?_⟩
      cases rv with
      | lst q t => exact ⟨_, rfl, ⟨_, SqL.of (s'.ex _ _ q)⟩, (p' H' Hf' μ' e m s').now s' _ (walk_sl (SqL.of q) t)⟩
    | scr xs =>
      refine .inl ⟨μ, Hf, Fr, ρ, M, r, s, up fun H' Hf' μ' e m s' v rv => ?_⟩
      cases rv with
      | scr q t => exact ⟨_, rfl, ⟨_, same_l s'.ex q⟩, (p' H' Hf' μ' e m s').now s' _ (walk_sl q t)⟩
    | _ => exact .inl ⟨μ, Hf, Fr, ρ, M, r, s, up fun H' Hf' μ' e m s' v rv => (p' H' Hf' μ' e m s').elim⟩
end
end Den
namespace Den
open PySem PySem.Spec PyProof.Rows L2
section
variable {X : Cx} {E : XK} {a b c e o : Expr} {es rest : List Expr} {fa fb fc F : FE} {ft fu : FT} {fg : FA} {pos : Pos} {st : Stmt} {sts : List Stmt} {fs gs : FS} {fi : FI}
/-! ### statements -/
@[simp] def sNx : FS := fun ρ M => .ok (.nx ρ) M
/-- what comes behind a statement that goes on -/
@[simp] def Out.then (o : Out Fl) (g : FS) : Out Fl := o.bind fun f M => match f with
  | .nx ρ => g ρ M
  | f => .ok f M
@[simp] def sSeq (f g : FS) : FS := fun ρ M => (f ρ M).then g
theorem ds_nil : DSs X E [] sNx := pss_imp pss_nil fun N σ H ⟨μ, Hf, Fr, ρ, M, r, s, p⟩ => p.now s σ r
theorem ds_cons (h1 : DS X E st fs) (h2 : DSs X E sts gs) : DSs X E (st :: sts) (sSeq fs gs) := by
  refine pss_imp (pss_cons h1 h2) fun N σ H ⟨μ, Hf, Fr, ρ, M, r, s, p⟩ => ?_
  refine ⟨μ, Hf, Fr, ρ, M, r, s, p.split.weak fun f μ1 Hf1 H1 M1 e1 m1 s1 p1 => ?_⟩
  cases f with
  | nx ρ1 => exact fun σ1 r1 => ⟨μ1, Hf1, Fr, ρ1, M1, r1, s1, p1⟩
  | rt d => exact fun v rv => p1.now s1 v rv
  | bk ρ1 => exact fun σ1 r1 => p1.now s1 σ1 r1
  | ct ρ1 => exact fun σ1 r1 => p1.now s1 σ1 r1
theorem ds_one (h1 : DS X E st fs) : DSs X E [st] fs := pss_imp (pss_one h1) fun N σ H h => h
theorem ds_pass : DS X E (.Pass pos) sNx := ps_imp ps_pass fun N σ H ⟨μ, Hf, Fr, ρ, M, r, s, p⟩ => p.now s σ r
theorem ds_break : DS X E (.Break pos) (fun ρ M => .ok (.bk ρ) M) := ps_imp ps_break fun N σ H ⟨μ, Hf, Fr, ρ, M, r, s, p⟩ => p.now s σ r
theorem ds_cont : DS X E (.Continue pos) (fun ρ M => .ok (.ct ρ) M) := ps_imp ps_continue fun N σ H ⟨μ, Hf, Fr, ρ, M, r, s, p⟩ => p.now s σ r
@[simp] def sExpr (F : FE) : FS := fun ρ M => (F ρ M).bind fun _ M1 => .ok (.nx ρ) M1
theorem ds_expr (he : DE X E e F) (hs : swapsWith e none pos.line X.env = pure false := by rfl) : DS X E (.Expr e pos) (sExpr F) := by
  refine ps_imp (ps_expr he hs) fun N σ H ⟨μ, Hf, Fr, ρ, M, r, s, p⟩ => ?_
  exact ⟨μ, Hf, Fr, ρ, M, r, s, p.split.weak fun d μ1 Hf1 H1 M1 e1 m1 s1 p1 v rv => p1.now s1 σ (r.mono e1 m1)⟩
@[simp] def sRet (F : FE) : FS := fun ρ M => (F ρ M).bind fun d M1 => .ok (.rt d) M1
theorem ds_ret (he : DE X E e F) : DS X E (.Return (some e) pos) (sRet F) := by
  refine ps_imp (ps_ret he) fun N σ H ⟨μ, Hf, Fr, ρ, M, r, s, p⟩ => ?_
  exact ⟨μ, Hf, Fr, ρ, M, r, s, p.split.weak fun d μ1 Hf1 H1 M1 e1 m1 s1 p1 v rv => p1.now s1 v rv⟩
theorem ds_retN : DS X E (.Return none pos) (fun _ M => .ok (.rt .non) M) := ps_imp ps_retN fun N σ H ⟨μ, Hf, Fr, ρ, M, r, s, p⟩ => p.now s _ .non
@[simp] def sIf (t : FT) (f g : FS) : FS := fun ρ M => (t ρ M).bind fun k M1 => if k = true then f ρ M1 else g ρ M1
theorem ds_if {p q : List Stmt} (hc : DT X E c ft) (ha : DSs X E p fs) (hb : DSs X E q gs) : DS X E (.If c p q pos) (sIf ft fs gs) := by
  refine ps_imp (ps_if hc ha hb) fun N σ H ⟨μ, Hf, Fr, ρ, M, r, s, p⟩ => ?_
  refine ⟨μ, Hf, Fr, ρ, M, r, s, p.split.weak fun k μ1 Hf1 H1 M1 e1 m1 s1 p1 => ?_⟩
  cases k with
  | true => exact iteT ⟨μ1, Hf1, Fr, ρ, M1, r.mono e1 m1, s1, p1⟩
  | false => exact iteF ⟨μ1, Hf1, Fr, ρ, M1, r.mono e1 m1, s1, p1⟩
@[simp] def sSet (i : Nat) (F : FE) : FS := fun ρ M => (F ρ M).bind fun d M1 => .ok (.nx (ρ.set i (some d))) M1
theorem set_go {i : Nat} {N : Ends} {σ : L2.St} {H : Hp} (h : tsF X.K E (sSet i F) N σ H) : tAsg (teF X.K E F) (gName i) N σ H := by
  obtain ⟨μ, Hf, Fr, ρ, M, r, s, p⟩ := h
  exact ⟨μ, Hf, Fr, ρ, M, r, s, p.split.weak fun d μ1 Hf1 H1 M1 e1 m1 s1 p1 v rv => p1.now s1 _ ((r.mono e1 m1).put i rv)⟩
theorem ds_set {i : Nat} (h : PS X st (tAsg (teF X.K E F) (gName i))) : DS X E st (sSet i F) := ps_imp h fun N σ H => set_go
/-- several names by a tuple, in general -/
@[simp] def sAsg (g : TgD) (F : FE) : FS := fun ρ M => (F ρ M).bind fun d M1 => match g d ρ with
  | some ρ' => .ok (.nx ρ') M1
  | none => .no
theorem ds_asg {tg : Expr} {g : TgD} {sl : List Nat} (he : DE X E e F) (hg : DG X tg g sl) (hs : swapsWithSole [tg] e pos.line X.env = pure false := by rfl) (hw : swappedStores [tg] e X.env = pure none := by rfl)
    (h1 : (assignEach [tg] X.env).map (·.2) = [assign tg X.env] := by rfl) : DS X E (.Assign [tg] e pos) (sAsg g F) := by
  refine ps_imp (ps_asg he hg hs hw h1) fun N σ H ⟨μ, Hf, Fr, ρ, M, r, s, p⟩ => ?_
  refine ⟨μ, Hf, Fr, ρ, M, r, s, p.split.weak fun d μ1 Hf1 H1 M1 e1 m1 s1 p1 v rv => ?_⟩
  split at p1
  · rename_i ρ' hg
    exact ⟨μ1, Hf1, ρ, d, ρ', s1.ex, r.mono e1 m1, rv, hg, fun σ' r' _ _ => p1.now s1 σ' r'⟩
  · exact p1.elim
/-- two names at once, both written -/
@[simp] def sPar (i j : Nat) (fg : FA) : FS := fun ρ M => (fg ρ M).bind fun ds M1 => match ds with
  | [x, y] => .ok (.nx ((ρ.set i (some x)).set j (some y))) M1
  | _ => .no
theorem ds_par {i j : Nat} (h : PS X st (tPar i j (taF X.K E fg))) : DS X E st (sPar i j fg) := by
  refine ps_imp h fun N σ H ⟨μ, Hf, Fr, ρ, M, r, s, p⟩ => ?_
  refine ⟨μ, Hf, Fr, ρ, M, r, s, p.split.weak fun ds μ1 Hf1 H1 M1 e1 m1 s1 p1 vs rs => ?_⟩
  split at p1
  · cases rs with
    | cons r1 t => cases t with
      | cons r2 t => cases t; exact ⟨_, _, rfl, p1.now s1 _ (((r.mono e1 m1).put i r1).put j r2)⟩
  · exact p1.elim
/-- o[i] = e on a list that may change -/
@[simp] def setM (o i d : D) (ρ : Ro) (M : Mem) : Out Fl := match o, i with
  | .loc n, .int k => match M[n]? with
    | some (some xs) => match ixN xs.length k with
      | some j => .ok (.nx ρ) (M.set n (some (xs.set j d)))
      | none => .no
    | _ => .no
  | _, _ => .no
@[simp] def sSetIx (F fo fj : FE) : FS := fun ρ M => (F ρ M).bind fun d M1 => (fo ρ M1).bind fun o M2 => (fj ρ M2).bind fun i M3 => setM o i d ρ M3
theorem ds_setIx {oe ie : Expr} {fo fj : FE} {p1 : Pos} (he : DE X E e F) (ho : DE X E oe fo) (hi : DE X E ie fj) (hs : swapsWithSole [.Subscript oe ie p1] e pos.line X.env = pure false := by rfl) (hw : swappedStores [.Subscript oe ie p1] e X.env = pure none := by rfl)
    (h1 : (assignEach [.Subscript oe ie p1] X.env).map (·.2) = [assign (.Subscript oe ie p1) X.env] := by rfl)
    (ha : ∀ v, assign (.Subscript oe ie p1) X.env v = (do
      let ov ← holding [v] (eval oe X.env)
      let iv ← holding [v, ov] (eval ie X.env)
      standAt p1
      holding [v, ov, iv] (setItem ov iv v)
      release [v, ov, iv] []) := by intro _; rfl) : DS X E (.Assign [.Subscript oe ie p1] e pos) (sSetIx F fo fj) := by
  refine ps_imp (ps_asg he (pg_sub ho hi set_list ha) hs hw h1) fun N σ H ⟨μ, Hf, Fr, ρ, M, r, s, p⟩ => ?_
  refine ⟨μ, Hf, Fr, ρ, M, r, s, p.split.weak fun d μ1 Hf1 H1 M1 e1 m1 s1 p1 v rv => ?_⟩
  refine ⟨μ1, Hf1, Fr, ρ, M1, r.mono e1 m1, s1, p1.split.weak fun od μ2 Hf2 H2 M2 e2 m2 s2 p2 ov ro => ?_⟩
  refine ⟨μ2, Hf2, Fr, ρ, M2, (r.mono e1 m1).mono e2 m2, s2, p2.split.weak fun id μ3 Hf3 H3 M3 e3 m3 s3 p3 iv ri => ?_⟩
  unfold setM at p3
  split at p3
  · split at p3
    · rename_i xs hM
      split at p3
      · rename_i j hj
        cases ri
        have ro' := Rep.mono e3 m3 _ _ ro
        cases ro' with
        | loc q =>
          obtain ⟨a, us, h1, h2, h3, h4, h5⟩ := s3.cell _ _ hM
          rw [q] at h1; cases h1
          have rd : RepAll X.K μ3 Hf3 (us.set j v) (xs.set j d) := h5.set j (Rep.mono e3 m3 _ _ (Rep.mono e2 m2 _ _ rv))
          exact ⟨_, _, _, j, rfl, rfl, h4, by rw [h5.length]; exact hj, p3.now (s3.turn hM q rd) σ (((r.mono e1 m1).mono e2 m2).mono e3 m3)⟩
      · exact p3.elim
    · exact p3.elim
  · exact p3.elim

/-! ### for -/
def loopD (g : TgD) (body : FS) : List D → FS
  | [], ρ, M => .ok (.nx ρ) M
  | d :: ds, ρ, M => match g d ρ with
    | some ρ1 => (body ρ1 M).bind fun f M1 => match f with
      | .nx ρ2 => loopD g body ds ρ2 M1
      | .ct ρ2 => loopD g body ds ρ2 M1
      | .bk ρ2 => .ok (.nx ρ2) M1
      | .rt d => .ok (.rt d) M1
    | none => .no
@[simp] def sFor (fi : FI) (g : TgD) (body : FS) : FS := fun ρ M => (fi ρ M).bind fun xs M1 => loopD g body xs ρ M1
theorem for_go {J : It} {g : TgD} {sl : List Nat} {xs : List D} {μ : List Addr} {Hf Fr H : Hp} {N : Ends} {σ : L2.St} {ρ : Ro} {M : Mem} (w : WalkD X.K μ Hf J xs) (r : ERep X.K μ Hf σ ρ) (s : SR X.K μ Hf Fr H M)
    (p : Post X.K E (loopD g fs xs ρ M) μ Hf Fr (kS X.K N)) :
    ∃ W : Nat → Nat → L2.St → Hp → Prop, (∃ m, W 0 m σ H) ∧ ∀ i m σ H, W i m σ H →
      (J.stop i H ∧ N.nx σ H) ∨ (J.go i H ∧ ∃ Nx : L2.St → Hp → Prop, (∀ σ' H', Nx σ' H' → ∃ m', m' < m ∧ W (i + 1) m' σ' H') ∧ ∀ x H', J.yld i H x H' → tgF X.K g sl x σ H' fun σ2 H2 => tsF X.K E fs { N with nx := Nx, ct := Nx, bk := N.nx } σ2 H2) := by
  obtain ⟨w1, w2, w3⟩ := w
  refine ⟨fun i m σ H => m = xs.length - i ∧ i ≤ xs.length ∧ ∃ μ1 Hf1 ρ1 M1, Same Hf Hf1 ∧ μ <+: μ1 ∧ ERep X.K μ1 Hf1 σ ρ1 ∧ SR X.K μ1 Hf1 Fr H M1 ∧ Post X.K E (loopD g fs (xs.drop i) ρ1 M1) μ1 Hf1 Fr (kS X.K N),
    ⟨_, rfl, Nat.zero_le _, μ, Hf, ρ, M, Same.refl _, List.prefix_refl _, r, s, p⟩, ?_⟩
  rintro i m σ1 H1 ⟨rfl, hi, μ1, Hf1, ρ1, M1, e1, m1, r1, s1, p1⟩
  by_cases hlt : i < xs.length
  · refine .inr ⟨w1 i H1 hlt (e1.trans s1.ex), fun σ' H' => ∃ μ2 Hf2 ρ2 M2, Same Hf Hf2 ∧ μ <+: μ2 ∧ ERep X.K μ2 Hf2 σ' ρ2 ∧ SR X.K μ2 Hf2 Fr H' M2 ∧ Post X.K E (loopD g fs (xs.drop (i + 1)) ρ2 M2) μ2 Hf2 Fr (kS X.K N), fun σ' H' q => ⟨xs.length - (i + 1), by omega, rfl, hlt, q⟩, fun x H' y => ?_⟩
    obtain ⟨Hf2, d, e2, s2, hd, rx⟩ := w3 i μ1 Hf1 Fr H1 M1 x H' hlt e1 m1 s1 y
    have hx : xs[i] = d := by rw [List.getElem?_eq_getElem hlt] at hd; exact Option.some.inj hd
    rw [List.drop_eq_getElem_cons hlt, hx] at p1
    unfold loopD at p1
    split at p1
    · rename_i ρ' hg
      refine ⟨μ1, Hf2, ρ1, d, ρ', s2.ex, r1.mono e2 (List.prefix_refl _), rx, hg, fun σ' r' _ _ => ?_⟩
      refine ⟨μ1, Hf2, Fr, ρ', M1, r', s2, (p1.later e2 (List.prefix_refl _)).split.weak fun f μ3 Hf3 H3 M3 e3 m3 s3 p3 => ?_⟩
      cases f with
      | nx ρ3 => exact fun σ3 r3 => ⟨μ3, Hf3, ρ3, M3, (e1.trans e2).trans e3, m1.trans m3, r3, s3, p3⟩
      | ct ρ3 => exact fun σ3 r3 => ⟨μ3, Hf3, ρ3, M3, (e1.trans e2).trans e3, m1.trans m3, r3, s3, p3⟩
      | bk ρ3 => exact fun σ3 r3 => p3.now s3 σ3 r3
      | rt d3 => exact fun v3 r3 => p3.now s3 v3 r3
    · exact p1.elim
  · have e : i = xs.length := by omega
    subst e
    rw [List.drop_length] at p1
    exact .inl ⟨w2 H1 (e1.trans s1.ex), p1.now s1 σ1 r1⟩
theorem ds_for {tg iter : Expr} {body : List Stmt} {g : TgD} {sl : List Nat} (hp : PassesOwn (model X.prog X.w) X.A X.env X.xe) (hc : X.calm = true) (hi : DI X E tg iter fi) (hg : DG X tg g sl) (hb : DSs X E body fs)
    (hs : ∀ x, foldedSetIterable iter X.env x = pure x := by intro _; rfl) : DS X E (.For tg iter body [] pos) (sFor fi g fs) := by
  refine ps_imp (ps_for hp hc hi hg hb hs) fun N σ H ⟨μ, Hf, Fr, ρ, M, r, s, p⟩ => ?_
  exact ⟨μ, Hf, Fr, ρ, M, r, s, p.split.weak fun xs μ1 Hf1 H1 M1 e1 m1 s1 p1 J w => for_go w (r.mono e1 m1) s1 p1⟩

/-! ### comprehensions -/
abbrev EN : XK := fun _ _ _ => False
@[simp] def Out.noX {α : Type} (o : Out α) : Out α := match o with
  | .exc _ _ => .no
  | o => o
theorem post_noX {α β : Type} {K : Kf} {o : Out α} {f : α → Mem → Out β} {μ : List Addr} {Hf Fr : Hp} {k : β → List Addr → Hp → Hp → Mem → Prop} (p : Post K E (o.noX.bind f) μ Hf Fr k) : Post K EN o μ Hf Fr (fun a μ1 Hf1 _ M1 => Post K E (f a M1) μ1 Hf1 Fr k) := by
  cases o with
  | ok a M => exact p.split
  | exc x M => exact p.elim
  | no => exact p
def lcD (g : TgD) (t : FT) (f : FE) (ρ : Ro) : List D → Mem → Out (List D)
  | [], M => .ok [] M
  | d :: ds, M => match g d ρ with
    | some ρ1 => (t ρ1 M).noX.bind fun k M1 => if k = true then (f ρ1 M1).noX.bind fun y M2 => (lcD g t f ρ ds M2).bind fun ys M3 => .ok (y :: ys) M3 else lcD g t f ρ ds M1
    | none => .no
@[simp] def eLc (fi : FI) (g : TgD) (vs : List Nat) (t : FT) (f : FE) : FE := fun ρ M => (fi ρ M).bind fun xs M1 => if xs.length ≤ lineD then (lcD g t f (wipeD ρ vs) xs M1).bind fun ys M2 => .ok (.lst ys) M2 else .no
/-- the list under way is set aside -/
theorem SR.hide {K : Kf} {μ : List Addr} {Hf Fr H : Hp} {M : Mem} {q : Addr} {o : HO} (s : SR K μ Hf Fr H M) (hq : H q = none) : SR K μ Hf (upd Fr q o) (upd H q o) M := by
  have hf : Hf q = none := s.ex.free hq
  refine ⟨fun b u e => by rw [upd_ne (ne_of_none e hf)]; exact s.ex b u e, fun b u e => ?_, fun b u e => ?_, s.len, s.nd, fun n ds e => ?_, fun b hb => ?_⟩
  · by_cases hb : b = q
    · subst hb; rw [upd_same] at e ⊢; exact e
    · rw [upd_ne hb] at e ⊢; exact s.fr b u e
  · by_cases hb : b = q
    · subst hb; exact hf
    · rw [upd_ne hb] at e; exact s.dis b u e
  · obtain ⟨a, vs, h1, h2, h3, h4, h5⟩ := s.cell n ds e
    have ha : a ≠ q := ne_of_none h4 hq
    exact ⟨a, vs, h1, h2, by rw [upd_ne ha]; exact h3, by rw [upd_ne ha]; exact h4, h5⟩
  · obtain ⟨u, e⟩ := s.old b hb
    exact ⟨u, by rw [upd_ne (ne_of_none e hq)]; exact e⟩
theorem SR.hideTurn {K : Kf} {μ : List Addr} {Hf Fr H : Hp} {M : Mem} {q : Addr} {o o' : HO} (s : SR K μ Hf (upd Fr q o) H M) : SR K μ Hf (upd Fr q o') (upd H q o') M := by
  have hf : Hf q = none := s.dis q o upd_same
  have hH : H q = some o := s.fr q o upd_same
  refine ⟨fun b u e => by rw [upd_ne (ne_of_none e hf)]; exact s.ex b u e, fun b u e => ?_, fun b u e => ?_, s.len, s.nd, fun n ds e => ?_, fun b hb => ?_⟩
  · by_cases hb : b = q
    · subst hb; rw [upd_same] at e ⊢; exact e
    · rw [upd_ne hb] at e ⊢; exact s.fr b u (by rw [upd_ne hb]; exact e)
  · by_cases hb : b = q
    · subst hb; exact hf
    · rw [upd_ne hb] at e; exact s.dis b u (by rw [upd_ne hb]; exact e)
  · obtain ⟨a, vs, h1, h2, h3, h4, h5⟩ := s.cell n ds e
    have ha : a ≠ q := fun z => by subst z; rw [upd_same] at h3; cases h3
    exact ⟨a, vs, h1, h2, by rw [upd_ne ha] at h3 ⊢; exact h3, by rw [upd_ne ha]; exact h4, h5⟩
  · by_cases hb' : b = q
    · subst hb'; exact ⟨_, upd_same⟩
    · obtain ⟨u, e⟩ := s.old b hb
      exact ⟨u, by rw [upd_ne hb']; exact e⟩
theorem SR.show {K : Kf} {μ : List Addr} {Hf Fr H : Hp} {M : Mem} {q : Addr} {o : HO} (s : SR K μ Hf (upd Fr q o) H M) (hq : Fr q = none) : SR K μ (upd Hf q o) Fr H M ∧ Same Hf (upd Hf q o) := by
  have hf : Hf q = none := s.dis q o upd_same
  have hs : Same Hf (upd Hf q o) := fun b u e => by rw [upd_ne (ne_of_none e hf)]; exact e
  refine ⟨⟨fun b u e => ?_, fun b u e => s.fr b u (by rw [upd_ne (ne_of_none e hq)]; exact e), fun b u e => ?_, s.len, s.nd, fun n ds e => ?_, s.old⟩, hs⟩
  · by_cases hb : b = q
    · subst hb; rw [upd_same] at e; rw [← e]; exact s.fr b o upd_same
    · rw [upd_ne hb] at e; exact s.ex b u e
  · have hb : b ≠ q := ne_of_none e hq
    rw [upd_ne hb]; exact s.dis b u (by rw [upd_ne hb]; exact e)
  · obtain ⟨a, vs, h1, h2, h3, h4, h5⟩ := s.cell n ds e
    have ha : a ≠ q := fun z => by subst z; rw [upd_same] at h3; cases h3
    exact ⟨a, vs, h1, by rw [upd_ne ha]; exact h2, by rw [upd_ne ha] at h3; exact h3, h4, h5.mono hs (List.prefix_refl _)⟩
theorem wipe_eq {σ σ' : L2.St} {sl vs : List Nat} (hl : σ'.length = σ.length) (hj : ∀ j, j ∉ sl → σ'[j]? = σ[j]?) (h : ∀ j ∈ sl, j ∈ vs) : L2.wipe σ' vs = L2.wipe σ vs := by
  have key : ∀ (vs : List Nat) (τ τ' : L2.St), τ'.length = τ.length → ∀ j, (L2.wipe τ' vs)[j]? = if j ∈ vs ∧ j < τ.length then some none else τ'[j]? := by
    intro vs
    induction vs with
    | nil => intro τ τ' _ j; simp [L2.wipe]
    | cons v vs ih =>
      intro τ τ' hl j
      show ((L2.wipe τ' vs).set v none)[j]? = _
      by_cases hv : v = j
      · subst hv
        by_cases hlt : v < τ.length
        · rw [List.getElem?_set_self (by rw [L2.wipe_length, hl]; exact hlt), if_pos ⟨List.mem_cons_self, hlt⟩]
        · rw [List.getElem?_eq_none (by rw [List.length_set, L2.wipe_length, hl]; omega), if_neg fun z => hlt z.2, List.getElem?_eq_none (by rw [hl]; omega)]
      · rw [List.getElem?_set_ne hv, ih τ τ' hl j]
        have : (j ∈ v :: vs) ↔ j ∈ vs := by simp [Ne.symm hv]
        simp only [this]
  refine List.ext_getElem? fun j => ?_
  rw [key vs σ σ' hl j, key vs σ σ rfl j]
  by_cases hm : j ∈ vs ∧ j < σ.length
  · rw [if_pos hm, if_pos hm]
  · rw [if_neg hm, if_neg hm]
    by_cases hs : j ∈ sl
    · have : ¬ j < σ.length := fun z => hm ⟨h j hs, z⟩
      rw [List.getElem?_eq_none (by rw [hl]; omega), List.getElem?_eq_none (by omega)]
    · exact hj j hs
theorem lc_go {J : It} {g : TgD} {sl vs : List Nat} {xs : List D} {μ : List Addr} {Hf Fr H : Hp} {Q : VK} {σ : L2.St} {ρ : Ro} {M : Mem} (hsl : ∀ j ∈ sl, j ∈ vs) (w : WalkD X.K μ Hf J xs) (r : ERep X.K μ Hf σ ρ) (s : SR X.K μ Hf Fr H M) (hz : xs.length ≤ lineD)
    (p : Post X.K E ((lcD g ft F (wipeD ρ vs) xs M).bind fun ys M2 => .ok (.lst ys) M2) μ Hf Fr (kD X.K Q)) : ∀ D, H D = none → ∃ W : Nat → Nat → Hp → Prop, (∃ m, W 0 m (upd H D (.lst []))) ∧ ∀ i m H, W i m H →
  (J.stop i H ∧ Q (.ref D) H) ∨ (J.go i H ∧ ∃ Nx : Hp → Prop, (∀ H', Nx H' → ∃ m', m' < m ∧ W (i + 1) m' H') ∧ ∀ x H', J.yld i H x H' → tgF X.K g sl x (L2.wipe σ vs) H' fun σ2 H2 => L2.wipe σ2 vs = L2.wipe σ vs ∧ ttF X.K EN ft σ2 H2 fun b H3 =>
    if b = true then teF X.K EN F σ2 H3 fun y H4 => ∃ acc, H4 D = some (.lst acc) ∧ acc.length < sizeLine ∧ Nx (upd H4 D (.lst (acc ++ [y]))) else Nx H3) := by
  intro D hD
  obtain ⟨w1, w2, w3⟩ := w
  have frD : Fr D = none := s.fr.free hD
  let P : Nat → Hp → Prop := fun i H => ∃ μ1 Hf1 M1 acc accD, Same Hf Hf1 ∧ μ <+: μ1 ∧ SR X.K μ1 Hf1 (upd Fr D (.lst acc)) H M1 ∧ RepAll X.K μ1 Hf1 acc accD ∧ acc.length ≤ i ∧
    Post X.K E ((lcD g ft F (wipeD ρ vs) (xs.drop i) M1).bind fun ys M2 => .ok (.lst (accD ++ ys)) M2) μ1 Hf1 Fr (kD X.K Q)
  refine ⟨fun i m H => m = xs.length - i ∧ i ≤ xs.length ∧ P i H, ⟨_, rfl, Nat.zero_le _, μ, Hf, M, [], [], Same.refl _, List.prefix_refl _, s.hide hD, .nil, Nat.le_refl _, p⟩, ?_⟩
  rintro i m H1 ⟨rfl, hi, μ1, Hf1, M1, acc, accD, e1, m1, s1, ra, hal, p1⟩
  by_cases hlt : i < xs.length
  · refine .inr ⟨w1 i H1 hlt (e1.trans s1.ex), P (i + 1), fun H' q => ⟨xs.length - (i + 1), by omega, rfl, hlt, q⟩, fun x H' y => ?_⟩
    obtain ⟨Hf2, d, e2, s2, hd, rx⟩ := w3 i μ1 Hf1 _ H1 M1 x H' hlt e1 m1 s1 y
    have hx : xs[i] = d := by rw [List.getElem?_eq_getElem hlt] at hd; exact Option.some.inj hd
    have pr := List.prefix_refl μ1
    have p2 := p1.later e2 pr
    rw [List.drop_eq_getElem_cons hlt, hx] at p2
    unfold lcD at p2
    have rw0 : ERep X.K μ1 Hf2 (L2.wipe σ vs) (wipeD ρ vs) := ((r.wipe vs).mono e1 m1).mono e2 pr
    split at p2
    · rename_i ρ' hg
      refine ⟨μ1, Hf2, _, d, ρ', s2.ex, rw0, rx, hg, fun σ' r' hl hj => ⟨?_, ?_⟩⟩
      · have h1 := wipe_eq hl hj hsl
        rw [h1]
        exact wipe_eq (sl := vs) (vs := vs) (σ' := L2.wipe σ vs) (σ := σ) (L2.wipe_length _ _) (fun j hn => by
          have : ∀ (vs : List Nat), j ∉ vs → (L2.wipe σ vs)[j]? = σ[j]? := by
            intro vs
            induction vs with
            | nil => intro _; rfl
            | cons v vs ih =>
              intro hn
              show ((L2.wipe σ vs).set v none)[j]? = _
              rw [List.getElem?_set_ne fun z => hn (by simp [z]), ih fun z => hn (List.mem_cons_of_mem _ z)]
          exact this vs hn) fun _ z => z
      · -- the test
        have assoc : ∀ {α β γ : Type} (o : Out α) (f : α → Mem → Out β) (h : β → Mem → Out γ), (o.bind f).bind h = o.bind fun a M => (f a M).bind h := fun o f h => by cases o <;> rfl
        rw [assoc] at p2
        have pt := post_noX p2
        have unF : ∀ {μ'' : List Addr} {Hf'' H'' : Hp} {M'' : Mem} {u : HO}, SR X.K μ'' Hf'' (upd Fr D u) H'' M'' → SR X.K μ'' Hf'' Fr H'' M'' := fun sr =>
          ⟨sr.ex, fun b u' e' => sr.fr b u' (by rw [upd_ne (ne_of_none e' frD)]; exact e'), fun b u' e' => sr.dis b u' (by rw [upd_ne (ne_of_none e' frD)]; exact e'), sr.len, sr.nd, fun n ds e' => by
            obtain ⟨a, vs, h1, h2, h3, h4, h5⟩ := sr.cell n ds e'
            have ha : a ≠ D := fun z => by subst z; rw [upd_same] at h3; cases h3
            exact ⟨a, vs, h1, h2, by rw [upd_ne ha] at h3; exact h3, h4, h5⟩, sr.old⟩
        -- the frame with the list under way
        have lift : ∀ {α : Type} {o : Out α} {μ' : List Addr} {Hf' : Hp} {k k' : α → List Addr → Hp → Hp → Mem → Prop} {u : HO}, Post X.K EN o μ' Hf' Fr k →
            (∀ a μ'' Hf'' H'' M'', Same Hf' Hf'' → μ' <+: μ'' → SR X.K μ'' Hf'' (upd Fr D u) H'' M'' → (∀ H3, SR X.K μ'' Hf'' Fr H3 M'' → k a μ'' Hf'' H3 M'') → k' a μ'' Hf'' H'' M'') → Post X.K EN o μ' Hf' (upd Fr D u) k' := by
          intro α o μ' Hf' k k' u q h
          cases o with
          | ok a M => exact fun H' Hf'' μ'' e m sr => h a μ'' Hf'' H' M e m sr fun H3 s3 => q H3 Hf'' μ'' e m s3
          | exc x M => exact fun dx H' Hf'' μ'' e m sr xr => q dx H' Hf'' μ'' e m (unF sr) xr
          | no => exact q
        refine ⟨μ1, Hf2, upd Fr D (.lst acc), ρ', M1, r', s2, lift pt fun k μ3 Hf3 H3 M3 e3 m3 s3 p3' => ?_⟩
        have p3 := p3' H3 (unF s3)
        cases k with
        | false =>
          refine iteF ⟨μ3, Hf3, M3, acc, accD, (e1.trans e2).trans e3, m1.trans m3, s3, (ra.mono e2 pr).mono e3 m3, Nat.le_succ_of_le hal, ?_⟩
          rw [if_neg Bool.false_ne_true] at p3
          exact p3
        | true =>
          rw [if_pos rfl, assoc] at p3
          have p4 := post_noX p3
          refine iteT ⟨μ3, Hf3, upd Fr D (.lst acc), ρ', M3, r'.mono e3 m3, s3, lift p4 fun yd μ5 Hf5 H5 M5 e5 m5 s5 p5' yv ry => ?_⟩
          have p5 := p5' H5 (unF s5)
          refine ⟨acc, s5.fr D _ upd_same, line_lt (by have := lineD_eq; omega), μ5, Hf5, M5, acc ++ [yv], accD ++ [yd], ((e1.trans e2).trans e3).trans e5, (m1.trans m3).trans m5, s5.hideTurn, (((ra.mono e2 pr).mono e3 m3).mono e5 m5).app (.cons ry .nil), by simp; omega, ?_⟩
          rw [assoc] at p5
          simpa using p5
    · exact p2.elim
  · have e : i = xs.length := by omega
    subst e
    rw [List.drop_length] at p1
    refine .inl ⟨w2 H1 (e1.trans s1.ex), ?_⟩
    obtain ⟨s6, e6⟩ := s1.show frD
    have p6 : Post X.K E (.ok (.lst accD) M1) μ1 Hf1 Fr (kD X.K Q) := by simpa [lcD] using p1
    exact p6 H1 (upd Hf1 D (.lst acc)) μ1 e6 (List.prefix_refl _) s6 _ (.lst upd_same (ra.mono e6 (List.prefix_refl _)))
end
end Den
namespace Den
open PySem PySem.Spec PyProof.Rows L2
section
variable {X : Cx} {E : XK} {a b c e o : Expr} {es rest : List Expr} {fa fb fc F : FE} {ft fu : FT} {fg : FA} {pos : Pos} {st : Stmt} {sts : List Stmt} {fs gs : FS} {fi : FI}
/-! ### comprehensions as expressions, as the value of a name -/
abbrev DTs (X : Cx) (E : XK) (ifs : List Expr) (F : FT) : Prop := PTs X ifs (ttF X.K E F)
@[simp] def tTrue : FT := fun _ M => .ok true M
theorem pts_imp {ifs : List Expr} {t t' : TT} (h : PTs X ifs t) (i : ∀ σ H Q, t' σ H Q → t σ H Q) : PTs X ifs t' := ⟨fun pins s σ H Q I q => h.run pins s σ H Q I (i σ H Q q)⟩
theorem dts_nil : DTs X E [] tTrue := pts_imp pts_nil fun σ H Q ⟨μ, Hf, Fr, ρ, M, r, s, p⟩ => p.now s
theorem dts_one (h : DT X E c ft) : DTs X E [c] ft := pts_one h
theorem lc_te {g : TgD} {sl vs : List Nat} {σ : L2.St} {H : Hp} {Q : VK} (hsl : ∀ j ∈ sl, j ∈ vs) (h : teF X.K E (eLc fi g vs ft F) σ H Q) : tLc (tiF X.K E fi) (tgF X.K g sl) (ttF X.K EN ft) (teF X.K EN F) vs σ H Q := by
  obtain ⟨μ, Hf, Fr, ρ, M, r, s, p⟩ := h
  refine ⟨μ, Hf, Fr, ρ, M, r, s, p.split.weak fun xs μ1 Hf1 H1 M1 e1 m1 s1 p1 J w => ?_⟩
  split at p1
  · rename_i hz
    exact lc_go hsl w (r.mono e1 m1) s1 hz p1
  · exact p1.elim
section
variable {elt tg iter : Expr} {ifs : List Expr} {scope : Scope} {own : List (Str × Nat)} {g : TgD} {sl vs : List Nat}
theorem de_lc (hc : X.calm = true) (hN : X.N.Nodup) (hi : DI X E tg iter fi) (ok : BlkOk X.N X.env.scope scope own) (hvs : own.map (·.2) = vs) (hsl : ∀ j ∈ sl, j ∈ vs)
    (hg : ∀ (s : Shared) (H : Hp) (C : Addr) (cl : List (Str × Addr)) (fp : List Addr), DG (X.blk s H scope (compEnvC scope cl C X.env) fp) tg g sl)
    (ht : ∀ (s : Shared) (H : Hp) (C : Addr) (cl : List (Str × Addr)) (fp : List Addr), DTs (X.blk s H scope (compEnvC scope cl C X.env) fp) EN ifs ft)
    (he : ∀ (s : Shared) (H : Hp) (C : Addr) (cl : List (Str × Addr)) (fp : List Addr), DE (X.blk s H scope (compEnvC scope cl C X.env) fp) EN elt F) (hs : ∀ x, foldedSetIterable iter X.env x = pure x := by intro _; rfl) :
    DE X E (.ListComp elt [⟨tg, iter, ifs, 0⟩] scope pos) (eLc fi g vs ft F) := by
  subst hvs
  exact pe_imp (pe_lc hc hN hi ok hg ht he hs) fun _ _ _ h => lc_te hsl h
theorem ds_setLc {i : Nat} {y : Str} {py spos : Pos} (hc : X.calm = true) (hN : X.N.Nodup) (hy : X.N[i]? = some y) (hyl : X.env.scope.names.lookup y = some .local)
    (hsw : swapsWith (.ListComp elt [⟨tg, iter, ifs, 0⟩] scope pos) (some (.Name y py)) spos.line X.env = pure true) (hi : DI X E tg iter fi) (ok : BlkOk X.N X.env.scope scope own) (hvs : own.map (·.2) = vs) (hsl : ∀ j ∈ sl, j ∈ vs)
    (hg : ∀ (s : Shared) (H : Hp) (C : Addr) (cl : List (Str × Addr)) (fp : List Addr), DG (X.blk s H scope (compEnvC scope cl C X.env) fp) tg g sl)
    (ht : ∀ (s : Shared) (H : Hp) (C : Addr) (cl : List (Str × Addr)) (fp : List Addr), DTs (X.blk s H scope (compEnvC scope cl C X.env) fp) EN ifs ft)
    (he : ∀ (s : Shared) (H : Hp) (C : Addr) (cl : List (Str × Addr)) (fp : List Addr), DE (X.blk s H scope (compEnvC scope cl C X.env) fp) EN elt F) (hs : ∀ x, foldedSetIterable iter X.env x = pure x := by intro _; rfl) :
    DS X E (.Assign [.Name y py] (.ListComp elt [⟨tg, iter, ifs, 0⟩] scope pos) spos) (sSet i (eLc fi g vs ft F)) := by
  subst hvs
  refine ps_imp (ps_setLc (g := tgF X.K g sl) (tt := ttF X.K EN ft) (te := teF X.K EN F) hc hN hy hyl hsw hi ok hg ht he hs) fun N σ H h => ?_
  obtain ⟨μ, Hf, Fr, ρ, M, r, s, p⟩ := h
  exact lc_te hsl ⟨μ, Hf, Fr, ρ, M, r, s, p.split.weak fun d μ1 Hf1 H1 M1 e1 m1 s1 p1 v rv => p1.now s1 _ ((r.mono e1 m1).put i rv)⟩
end

/-! ### defs -/
/-- what a def promises: it hands back what the function says -/
def spD (K : Kf) (n : Nat) (F : GA) : Sp := fun vs H Q E => vs.length = n ∧ ∃ μ Hf Fr M ds, RepAll K μ Hf vs ds ∧ SR K μ Hf Fr H M ∧ Post K E (F ds M) μ Hf Fr (kD K Q)
structure FnG (P : Program) (w : World) (K : Kf) (mg : Str → Option Value) (base : Heap) (CX : CXT) (k : Nat) (f : Addr) (fd : FuncData) (ps : List Str) (F : GA) : Prop where
  run : ∀ (A : Around) (outer : List Env) (s : Shared) (H : Hp) (args : Args) (us : List Value) (vs : List V) (Q : VK) (E : XK), Room k A → A.guards = some [] → Env0 P w K mg base A outer s H → BindsTo s fd args (ps.zip us) → Vals vs us →
    spD K ps.length F vs H Q E → codeAny (model P w) A (.call (.ref f) args) (CR CX outer P w H s Q E) s
theorem FnG.mono {P : Program} {w : World} {K : Kf} {mg : Str → Option Value} {base : Heap} {CX : CXT} {j k : Nat} {f : Addr} {fd : FuncData} {ps : List Str} {F : GA} (G : FnG P w K mg base CX j f fd ps F) (h : j ≤ k) : FnG P w K mg base CX k f fd ps F :=
  ⟨fun A outer s H args us vs Q E hr => G.run A outer s H args us vs Q E (hr.mono h)⟩
theorem deeper_guards (A : Around) (env : Env) : (A.deeper env).guards = A.guards := by first | rfl | simp [Around.deeper]
section
variable {CX : CXT} {k : Nat} {f : Addr} {fd : FuncData} {ps : List Str} {dvs : List V} {dds : List D} {ds : List Value} {x : Str} {p : Pos} {g : GA}
theorem runG {pins : List (Addr × Obj)} {σ : L2.St} {H : Hp} {s : Shared} {Q : VK} {us : List Value} {vs : List V} (G : FnG X.prog X.w X.K X.mg X.base CX k f fd ps g) (hr : Room k X.A) (hgd : X.A.guards = some []) (hb : Binds X.K fd ps ds) (hd : Vals dvs ds)
    (hx : Passes CX X E) (I : Inv X pins σ H s) (r : Vals vs us) (h : spD X.K ps.length g (vs ++ dvs) H Q E) : wpAny (model X.prog X.w) X.A (call (.ref f) us) (EP X pins σ Q) X.xe s := by
  have rr := r.append hd
  have hn : (us ++ ds).length = ps.length := rr.length.symm.trans h.1
  have go := G.run X.A X.stack s H ⟨us, []⟩ (us ++ ds) (vs ++ dvs) Q E hr hgd I.env0 (hb s us I.kIn hn) rr h
  refine wpAny_call (codeAny_mono go fun res s' q => ?_)
  match res, q with
  | .ok (.ret u), q => exact I.after q
  | .error e, q => exact hx pins σ H s e s' I q
/-- defaults that are data wherever they stand -/
def Dflt (K : Kf) (dvs : List V) (dds : List D) : Prop := ∀ μ Hf, RepAll K μ Hf dvs dds
theorem dflt_nil {K : Kf} : Dflt K [] [] := fun _ _ => .nil
@[simp] def eCall (g : GA) (dds : List D) (n : Nat) (fg : FA) : FE := fun ρ M => (fg ρ M).bind fun xs M1 => if (xs ++ dds).length = n then g (xs ++ dds) M1 else .no
theorem call_go {σ : L2.St} {H : Hp} {Q : VK} (hd : Dflt X.K dvs dds) (h : teF X.K E (eCall g dds ps.length fg) σ H Q) : taF X.K E fg σ H (fun vs H1 => spD X.K ps.length g (vs ++ dvs) H1 Q E) := by
  obtain ⟨μ, Hf, Fr, ρ, M, r, s, z⟩ := h
  refine ⟨μ, Hf, Fr, ρ, M, r, s, z.split.weak fun xs μ1 Hf1 H1 M1 e1 m1 s1 p1 vs rs => ?_⟩
  split at p1
  · rename_i hn
    have ra := rs.app (hd μ1 Hf1)
    exact ⟨by rw [ra.length]; exact hn, μ1, Hf1, Fr, M1, xs ++ dds, ra, s1, p1⟩
  · exact p1.elim
theorem de_call (G : FnG X.prog X.w X.K X.mg X.base CX k f fd ps g) (hr : Room k X.A) (hgd : X.A.guards = some []) (hg : Gl X x) (hm : X.mg x = some (.ref f)) (hk : PySem.W.keepIn X.K (.ref f) = true) (hb : Binds X.K fd ps ds) (hd : Vals dvs ds) (hdd : Dflt X.K dvs dds)
    (hx : Passes CX X E) (ha : DA X E (e :: es) fg) (hdb : (x == ("__debug__" : Str)) = false := by decide) (he : starEach (e :: es) X.env = (false, eval e X.env) :: starEach es X.env := by rfl) (hpl : (backTo pos (starEach es X.env)).any (·.1) = false := by rfl) :
    DE X E (.Call (.Name x p) (e :: es) [] pos) (eCall g dds ps.length fg) := by
  constructor
  intro pins s σ H Q I h
  refine wpAny_Call_Name_kw (ld_glob I hg hm (PySem.W.callWith_K (h₀ := X.base) I.ok.mod.kin hk (thn (ha.run pos pins s σ H _ I (call_go hdd h)) ?_) he hpl) hdb)
  rintro us s1 ⟨vs, H1, I1, r, q⟩
  exact ⟨I1.kIn, runG G hr hgd hb hd hx I1 r q⟩
/-- a def that a name of the frame's holds; S: which function stands at which address -/
@[simp] def eCallL (i : Nat) (S : Addr → Option (Nat × GA)) (fg : FA) : FE := fun ρ M => match ρ[i]? with
  | some (some (.fn a)) => match S a with
    | some (n, g) => (fg ρ M).bind fun xs M1 => if xs.length = n then g xs M1 else .no
    | none => .no
  | _ => .no
structure HeldG (P : Program) (w : World) (K : Kf) (mg : Str → Option Value) (base : Heap) (k : Nat) (f : Addr) (n : Nat) (g : GA) : Prop where
  ex : ∃ (fd : FuncData) (ps : List Str), FnG P w K mg base CX0 k f fd ps g ∧ PySem.W.keepIn K (.ref f) = true ∧ Binds K fd ps [] ∧ ps.length = n
theorem de_callL {i : Nat} {S : Addr → Option (Nat × GA)} (A : ∀ f n g, S f = some (n, g) → HeldG X.prog X.w X.K X.mg X.base k f n g) (hr : Room k X.A) (hgd : X.A.guards = some []) (hN : X.N[i]? = some x) (hv : Vis X.env.scope x) (ha : DA X E (e :: es) fg)
    (hdb : (x == ("__debug__" : Str)) = false := by decide) (hcd : (x == ("__classdict__" : Str)) = false := by decide)
    (he : starEach (e :: es) X.env = (false, eval e X.env) :: starEach es X.env := by rfl) (hpl : (backTo pos (starEach es X.env)).any (·.1) = false := by rfl) : DE X E (.Call (.Name x p) (e :: es) [] pos) (eCallL i S fg) := by
  constructor
  rintro pins s σ H Q I ⟨μ, Hf, Fr, ρ, M, r, sr, z⟩
  unfold eCallL at z
  split at z
  · rename_i f hf
    split at z
    · rename_i n g hS
      obtain ⟨fd, ps, G, hk, hb, hn⟩ := (A f n g hS).ex
      subst hn
      obtain ⟨v, h1, h2⟩ := r.slot i _ hf
      cases h2
      refine wpAny_Call_Name_kw (thn ((pe_var (pos := p) hN hv hdb hcd).run pins s σ H (fun v H1 => v = .ref f ∧ H1 = H) I ⟨.ref f, h1, rfl, rfl⟩) ?_)
      rintro u s1 ⟨v, H1, I1, r1, rfl, rfl⟩
      cases r1
      refine PySem.W.callWith_K (h₀ := X.base) I.ok.mod.kin hk (thn (ha.run pos pins s1 σ _ _ I1 (call_go (dvs := []) (dds := []) (Q := Q) (g := g) dflt_nil ⟨μ, Hf, Fr, ρ, M, r, sr, by simpa [eCall] using z⟩)) ?_) he hpl
      rintro us s2 ⟨vs, H2, I2, rv, q⟩
      exact ⟨I2.kIn, runG (E := E) G hr hgd hb .nil (fun _ _ _ _ _ _ _ y => y.elim) I2 rv q⟩
    · exact z.elim
  · exact z.elim
end
/-- the function of a def by what its body does to its names -/
@[simp] def defF (n : Nat) (body : FS) : GA := fun ds M => (body (ds.map some ++ List.replicate (n - ds.length) none) M).noX.bind fun f M1 => match f with
  | .rt d => .ok d M1
  | .nx _ => .ok .non M1
  | _ => .no
theorem start_rep {K : Kf} {μ : List Addr} {H : Hp} {N : List Str} {vs : List V} {ds : List D} (r : RepAll K μ H vs ds) : ERep K μ H (L2.start N vs) (ds.map some ++ List.replicate (N.length - ds.length) none) := by
  unfold L2.start
  refine ⟨by simp [r.length], fun i d e => ?_⟩
  by_cases hi : i < ds.length
  · rw [List.getElem?_append_left (by simpa using hi), List.getElem?_map] at e
    cases hd : ds[i]? with
    | none => rw [hd] at e; cases e
    | some d' =>
      rw [hd] at e
      have e' : d' = d := by simpa using e
      subst e'
      obtain ⟨v, h1, h2⟩ := r.at hd
      refine ⟨v, ?_, h2⟩
      rw [List.getElem?_append_left (by simp [r.length, hi]), List.getElem?_map, h1]
      rfl
  · rw [List.getElem?_append_right (by simpa using hi), List.getElem?_replicate] at e
    split at e <;> cases e
section
variable {P : Program} {w : World} {K : Kf} {mg : Str → Option Value} {base : Heap}
/-- THE RULE for a def by its body (that lets nothing out) -/
theorem fnG_of {x qual : Str} {f : Addr} {fd : FuncData} {N ps : List Str} {k : Nat} {body : FS} (F : Fun K x qual st f fd) (S : FnScope N ps (defScope st))
    (hb : ∀ (cdv : Value) (A : Around) (outer : List Env) (s : Shared) (H : Hp) (E : XK), Room k (A.deeper (envOfC qual (defScope st) s.heap.objs.size f cdv)) → A.guards = some [] →
      DSs (cxOf CX0 P w K mg base N qual (defScope st) f cdv A outer s H E).nox EN (defBody st) body) : FnG P w K mg base CX0 (k + 1) f fd ps (defF N.length body) := by
  obtain ⟨oc, od, kV, doc, pm, an, cdv, ct, osl, rfl, lk, hcd⟩ := F.ex
  constructor
  rintro A outer s H args us vs Q E hr hgd e0 hbd rv ⟨hl, μ, Hf, Fr, M, ds, ra, sr, z⟩
  have keep : ∀ b o, base.get? b = some o → s.heap.get? b = some o := fun b o e => (e0.bs b o e).1
  have kin := e0.mod.kin.keeps keep
  have kinds : ∀ y ∈ ps.zip us, (defScope st).names.lookup y.1 = some .local ∨ ((defScope st).names.lookup y.1 = some .cell ∧ ((cellsFrom (s.heap.objs.size + 1) (defScope st).names []).lookup y.1).isSome = true) := by
    rintro ⟨y, v⟩ hy
    exact (S.par y (List.of_mem_zip hy).1).imp _root_.id fun q => ⟨q, PySem.W.cellsFrom_some _ _ _ (.inl q)⟩
  refine codeAny_call_function hr.depth (kin _ _ lk) rfl S.co S.gen rfl (PySem.W.codeRec_of kin hcd) (hbd _ _ _ _ ?_)
  refine wpAny_newFunctionEnv_cells S.kind kinds ?_
  rintro env rfl s1 ent
  refine ⟨(e0.mod.nolimit.keeps keep).keeps ent.toInCall.keep, codeAny_func ?_⟩
  have I := inv_start (CX := CX0) (P := P) (w := w) (mg := mg) (E := E) (vs := vs) S hr.hd e0 hl rv ent
  have ran := (hb cdv A outer s H E (hr.deeper _) hgd).nox
  have want : tsF K EN body { nx := fun _ H' => Q .non H', rt := Q } (L2.start N vs) H := by
    refine ⟨μ, Hf, Fr, _, M, start_rep ra, sr, (post_noX z).weak fun f μ1 Hf1 H1 M1 e1 m1 s1 p1 => ?_⟩
    cases f with
    | rt d => exact fun v r1 => p1.now s1 v r1
    | nx ρ => exact fun _ _ => p1.now s1 _ .non
    | bk ρ => exact p1.elim
    | ct ρ => exact p1.elim
  refine wpAny_mono (ran.run [] s1 (L2.start N vs) H _ I want) (fun fl s' hs => ?_) fun e s' hs => hs
  match fl, hs with
  | .ret u, ⟨v, σ', H', J, rr, q⟩ => exact ⟨v, H', J.os, J.bare, J.base, J.hok, rr, q⟩
  | .next, ⟨σ', H', J, q⟩ => exact ⟨.non, H', J.os, J.bare, J.base, J.hok, rfl, q⟩
  | .brk, ⟨_, _, _, q⟩ => exact False.elim q
  | .cont, ⟨_, _, _, q⟩ => exact False.elim q
end
end
end Den
namespace Den
open PySem PySem.Spec PyProof.Rows L2
theorem ints_rep {K : Kf} {μ : List Addr} {H : Hp} : ∀ ns : List Int, RepAll K μ H (ns.map V.int) (ns.map D.int)
  | [] => .nil
  | n :: ns => .cons (.int n) (ints_rep ns)
/-! ### the law's call -/
theorem law_callG {P : Program} {w : World} {K : Kf} {mg mb : Str → Option Value} {k : Nat} {fa a : Addr} {fd : FuncData} {x : Str} {s₁ : Shared} {vs : List Value} {ns : List Int}
    (kin : K.In s₁.heap) (hns : s₁.heap.Ns mainGlobals mg) (hb : s₁.heap.Ns builtinsNs mb) (hbb : ∀ x : Str, x ≠ "__name__" → mb x = bootBuiltins x) (hlim : s₁.heap.NoLimit) (hg : s₁.gens = #[])
    (ha : s₁.heap.get? a = some { cls := .type "list", data := .seq vs.toArray }) (hi : IntsAre vs ns) (hl : ns.length ≤ sizeLine) (hr : Room k callerA)
    (F : ∀ base : Heap, K.In base → base.Ns mainGlobals mg → ∃ g M', FnG P w K mg base CX0 k fa fd [x] g ∧ g [.scr (ns.map D.int)] [] = .ok (.bl true) M') (hbind : ∀ (s : Shared) (u : Value), BindsTo s fd ⟨[u], []⟩ [(x, u)]) :
    codeAny (model P w) callerA (.call (.ref fa) ⟨[.ref a], []⟩) (fun r s' => r = .ok (.ret (.bool true)) ∧ OldK s₁.heap s'.heap ∧ s'.os = s₁.os ∧ AllBare s'.gens) s₁ := by
  have rv := vals_ints hi
  have lenV := hi.length
  have core : ∀ H : Hp, Only H → SqL K H a (ns.map V.int) → HOk P w H s₁.heap → (∀ b, H b ≠ none → b = a) → (H a ≠ none → K.lookup a = none) →
      codeAny (model P w) callerA (.call (.ref fa) ⟨[.ref a], []⟩) (fun r s' => r = .ok (.ret (.bool true)) ∧ OldK s₁.heap s'.heap ∧ s'.os = s₁.os ∧ AllBare s'.gens) s₁ := by
    intro H only sq ok one away
    have at_a : ∀ {b : Addr} {u : HO}, H b = some u → b = a := fun {b u} q => one b (by rw [q]; exact fun z => nomatch z)
    have nodict : ∀ {b : Addr} {o : Obj} {es : Array DictEntry} {ep : Nat}, s₁.heap.get? b = some o → o.data = .dict es ep → H b = none := by
      intro b o es ep e d
      cases q : H b with
      | none => rfl
      | some u =>
        rw [at_a q, ha] at e
        cases e
        cases d
    have ns_base : ∀ {b : Addr} {m : Str → Option Value}, s₁.heap.Ns b m → (hidT s₁.heap H).Ns b m := by
      rintro b m ⟨o, es, ep, e, d, r⟩
      exact ⟨o, es, ep, hidT_get e (nodict e d), d, r⟩
    have kin_base : K.In (hidT s₁.heap H) := by
      intro b o e
      refine hidT_get (kin b o e) ?_
      cases q : H b with
      | none => rfl
      | some u =>
        have z := at_a q
        subst z
        rw [away (by rw [q]; exact fun z => nomatch z)] at e
        cases e
    have md : Mod K mg (hidT s₁.heap H) := by
      obtain ⟨mc, c1, c2⟩ := hlim
      exact ⟨kin_base, ns_base hns, ⟨mb, ns_base hb, hbb⟩, mc, ns_base c1, c2⟩
    have e0 : Env0 P w K mg (hidT s₁.heap H) callerA [] s₁ H := by
      refine ⟨rfl, md, fun b o e => of_hidT e, Nat.le_of_eq (hidT_size _ _), trivial, fun b hb => ?_, ok, .of_eq hg⟩
      exact absurd (show b ∈ ([] : List Addr) from hb) (by simp)
    obtain ⟨g, M', G, hM⟩ := F _ kin_base (ns_base hns)
    have sp : spD K [x].length g [.ref a] H (fun v _ => v = .bl true) EN := by
      refine ⟨rfl, [], H, fun _ => none, [], [.scr (ns.map D.int)], .cons (.scr sq (ints_rep ns)) .nil, ⟨fun _ _ e => e, fun _ _ e => (nomatch e), fun _ _ e => (nomatch e), rfl, List.nodup_nil, fun n ds e => by simp at e, fun b hb => by simp at hb⟩, ?_⟩
      rw [hM]
      exact fun H' Hf' μ' _ _ _ v r => by cases r; rfl
    refine codeAny_mono (G.run callerA [] s₁ H ⟨[.ref a], []⟩ [.ref a] [.ref a] _ EN hr rfl e0 (hbind s₁ (.ref a)) (.cons rfl .nil) sp) ?_
    intro r s' h
    match r, h with
    | .error e, h => exact h.elim
    | .ok (.ret u), ⟨v, H', os, bare, un, ok', r', q⟩ =>
      have q' : v = .bl true := q
      subst q'
      have u' : u = Value.bool true := r'
      subst u'
      refine ⟨rfl, OldK.of_keep fun b o e => ?_, os, bare⟩
      have nil : b ∉ ([] : List Addr) := by simp
      cases q : H b with
      | none => exact un.keep b o e q nil nil
      | some u =>
        rcases only b with z | ⟨ob, xs, z⟩
        · rw [q] at z; cases z
        · have x1 := (ok b _ z).1
          have x2 := (ok' b _ (un.frzs b ob _ z)).1
          rw [e] at x1
          cases x1
          exact x2
  cases hk : K.lookup a with
  | some o =>
    have e := kin a o hk
    rw [ha] at e
    cases e
    have sq : SqL K (fun _ => none) a (ns.map V.int) := .inr ⟨_, vs.toArray, _, hk, rfl, rfl, rfl, by rw [List.size_toArray, lenV]; exact hl, by simpa using rv⟩
    exact core (fun _ => none) (fun _ => .inl rfl) sq (fun b u z => nomatch z) (fun b z => absurd rfl z) fun z => absurd rfl z
  | none =>
    let o : Obj := { cls := .type "list", data := .seq vs.toArray }
    let H : Hp := upd (fun _ => none) a (.frz o (.lst (ns.map V.int)))
    have hHa : H a = some (.frz o (.lst (ns.map V.int))) := upd_same
    have hHn : ∀ b, b ≠ a → H b = none := fun b hb => upd_ne hb
    refine core H (fun b => ?_) (.inl (.inr ⟨o, hHa⟩)) (fun b u z => ?_) (fun b z => ?_) fun _ => hk
    · by_cases hb : b = a
      · subst hb; exact .inr ⟨_, _, hHa⟩
      · exact .inl (hHn b hb)
    · by_cases hb : b = a
      · subst hb
        rw [hHa] at z
        cases z
        exact ⟨ha, by rw [List.length_map]; exact hl, vs, _, rv, ha⟩
      · rw [hHn b hb] at z; cases z
    · by_cases hb : b = a
      · exact hb
      · exact absurd (hHn b hb) z
/-- the goal that the head leaves, from what the law's function says -/
theorem walkG {l : PySem.W.OpenLaw} {n k : Nat} {q : Program} {loose : List Str} {XP : (Str → Option Value) → Heap → Prop} {YP : World → Heap → Prop} {d : DefRec} {K : Params → Kf} {x : Str}
    (hn : l.most = some n) (hn2 : n ≤ sizeLine) (hdf : d.params.defaults = []) (hr : Room k callerA) (hY : ∀ (w : World) (h : Heap), YP w h → (K w.params).In h)
    (F : ∀ (w : World) (mg : Str → Option Value) (fa : Addr) (h : Heap), (K w.params).In h → h.Ns mainGlobals mg → mg d.name = some (.ref fa) →
      ∃ fd : FuncData, (∀ (s : Shared) (u : Value), BindsTo s fd ⟨[u], []⟩ [(x, u)]) ∧
        ∀ (base : Heap) (ns : List Int), ns.length ≤ n → (K w.params).In base → base.Ns mainGlobals mg → ∃ g M', FnG l.prog w (K w.params) mg base CX0 k fa fd [x] g ∧ g [.scr (ns.map D.int)] [] = .ok (.bl true) M') :
    PySem.W.WalkO q loose XP YP l.row.toRowW d [] (fun f vs => PySem.call f vs) := by
  refine Att.attach_call hn hdf ?_
  intro w s₀ s₁ mg mb fa o pm cd doc a vs ns G Y ho hd hcd hmg hobj hints hlen hg
  obtain ⟨fd, hb, hF⟩ := F w mg fa _ (hY w _ Y) G.T.g hmg
  exact law_callG (hY w _ Y) G.T.g G.T.b G.T.builtins G.T.nolimit hg hobj hints (Nat.le_trans hlen hn2) hr (fun base h1 h2 => hF base ns hlen h1 h2) hb

section
variable {X : Cx} {E : XK} {a b c e o : Expr} {es rest : List Expr} {fa fb fc F : FE} {ft fu : FT} {fg : FA} {pos : Pos} {st : Stmt} {sts : List Stmt} {fs gs : FS} {fi : FI}
/-! ### dicts that are only held -/
@[simp] def eD0 : FE := fun _ M => .ok (.dct [] []) M
theorem de_d0 : DE X E (.Dict [] [] pos) eD0 := pe_imp pe_dnewK fun σ H Q ⟨μ, Hf, Fr, ρ, M, r, s, p⟩ q hq => p.new s hq fun e => .dct upd_same rfl .nil
end

/-! ### list(text) -/
theorem call_list_str {prog : Program} {w : World} {A : Around} {E : Value → Shared → Prop} {s : Shared} {Q : Value → Shared → Prop} (hh : A.handled = none) (x : Str) (t : Tok) (hn : x.cps.size ≤ sizeLine)
    (hQ : ∀ h' tk acc' c', (∀ b o, s.heap.get? b = some o → h'.get? b = some o) → h'.get? s.heap.objs.size = some { cls := .type "list", dict := none, data := .seq acc' c', slots := #[] } → ItemsOf (SignAt x) acc' x.cps.size → Q (.ref s.heap.objs.size) { s with heap := h', toks := tk }) :
    wpAny (model prog w) A (call (.type "list") [.str x t]) Q E s := by
  refine callType_codes (Q₁ := fun obj s₁ => obj = .ref s.heap.objs.size ∧ s₁ = { s with heap := s.heap.push { cls := .type "list", data := .seq #[] } }) PySem.F.called_list (PySem.F.typeCall_list_1 _) PySem.F.entry_list_init (code_list_new _ ⟨rfl, rfl⟩) ?_
  rintro obj s₁ ⟨rfl, rfl⟩
  have hS : (s.heap.push { cls := .type "list", data := .seq #[] }).get? s.heap.objs.size = some { cls := .type "list", data := .seq #[] } := Heap.get?_push_size _ rfl
  refine ⟨⟨_, hS, rfl⟩, PySem.F.args_list_init_2 _ _, ?_⟩
  show wpAny _ _ (do let old ← Builtin.List.listItems (.ref s.heap.objs.size); Builtin.List.listUpdate (.ref s.heap.objs.size) (fun _ => #[]); letGo old.toList.reverse; Builtin.List.listExtendWith (.ref s.heap.objs.size) (.str x t) .none) _ _ _
  refine wpAny_bind ?_
  unfold Builtin.List.listItems
  refine wpAny_bind (wpAny_seqItems hS rfl (wpAny_pure ?_))
  show wpAny _ _ (updateSeq s.heap.objs.size (fun _ => #[]) >>= fun _ => letGo (#[] : Array Value).toList.reverse >>= fun _ => Builtin.List.listExtendWith (.ref s.heap.objs.size) (.str x t) .none) _ _ _
  refine wpAny_bind (wpAny_updateSeq hS rfl ?_)
  have hS₂ := Heap.get?_update_self (Obj.mapSeq (fun _ => (#[] : Array Value))) hS rfl
  have oth : ∀ b o, s.heap.get? b = some o → ((s.heap.push { cls := .type "list", data := .seq #[] }).update s.heap.objs.size (Obj.mapSeq (fun _ => (#[] : Array Value)))).get? b = some o :=
    fun b o e => (Heap.get?_update_other _ _ (Nat.ne_of_gt (Heap.lt_size e))).trans (Heap.get?_push_of_some _ e)
  refine wpAny_bind (wpAny_letGo ?_)
  generalize hH : (s.heap.push { cls := .type "list", data := .seq #[] }).update s.heap.objs.size (Obj.mapSeq (fun _ => (#[] : Array Value))) = H at hS₂ oth ⊢
  unfold Builtin.List.listExtendWith
  refine wpAny_bind (wpAny_typeOf (T := "str") (v := .str x t) rfl ?_)
  have h1 : Builtin.List.listSameRef (.ref s.heap.objs.size) (.str x t) = false := rfl
  have h2 : (Value.type "str" == Value.type "list") = false := by decide
  have h3 : (Value.type "str" == Value.type "tuple") = false := by decide
  simp only [h1, h2, h3, Bool.or_false, Bool.false_eq_true, if_false]
  refine wpAny_bind (wpAny_pyIter_str fun o St W hst => ?_)
  refine wpAny_bind (wpAny_holding ?_)
  unfold Builtin.List.listLengthHint
  refine wpAny_bind (wpAny_specialOf (T := "str") (v := .str x t) rfl PySem.F.str_len ?_)
  wp_delta
  refine wpAny_bind (wpAny_isInstance (T := "str") (v := .str x t) (b := true) rfl (by rw [isSubtype_type]; kernel_rfl) ?_)
  show wpAny _ _ (typeOf (Value.str x t) >>= _) _ _ _
  refine wpAny_bind (wpAny_typeOf (T := "str") (v := .str x t) rfl ?_)
  refine wpAny_pure ?_
  rw [if_neg (by decide)]
  have hlt : s.heap.objs.size < H.objs.size := Heap.lt_size hS₂
  have hSf : s.heap.objs.size ∉ [H.objs.size] := fun hm => by
    have := List.mem_singleton.mp hm
    omega
  refine wpAny_pure ⟨plainId_quiet PySem.F.plain_extend_loop _, codeAny_extend_loopS (W A.in1.in1 hh).toS hn _ hSf _ x.cps.size 0 _ _ _ rfl (Nat.zero_le _) hst (Heap.get?_push_of_some _ hS₂) (ItemsOf.nil _) fun s' acc' c' hm hS' hacc => ?_⟩
  rw [Moved.eq_with hm]
  refine ⟨rfl, hQ s'.heap s'.toks acc' c' (fun b ob e => hm.heap b ob (fun hb => ?_) (Heap.get?_push_of_some _ (oth b ob e))) hS' hacc⟩
  have hlb := Heap.lt_size e
  rcases List.mem_cons.mp hb with q | q
  · rw [q] at hlb
    exact Nat.lt_irrefl _ hlb
  · rw [List.mem_singleton.mp q] at hlb
    exact absurd (Nat.lt_trans hlb hlt) (Nat.lt_irrefl _)
section
variable {X : Cx} {E : XK}
@[simp] def gList : GA := fun ds M => match ds with
  | [.str z] => if z.length ≤ lineD then .ok (.lst (signs z)) M else .no
  | [.tup xs] => .ok (.lst xs) M
  | [d] => match itemsD d M with
    | some xs => .ok (.lst xs) M
    | none => .no
  | _ => .no
theorem vals_signs : ∀ {us : List Value} {cs : List Nat}, us.length = cs.length → (∀ (j : Nat) (c : Nat) (u : Value), cs[j]? = some c → us[j]? = some u → ∃ t, u = .str ⟨#[c]⟩ t) → Vals (cs.map fun c => V.str ⟨#[c]⟩) us
  | [], [], _, _ => .nil
  | u :: us, c :: cs, hl, h => by
    obtain ⟨t, e⟩ := h 0 c u rfl rfl
    exact .cons ⟨t, e⟩ (vals_signs (by simpa using hl) fun j c' u' h1 h2 => h (j + 1) c' u' (by simpa using h1) (by simpa using h2))
  | [], _ :: _, hl, _ => by simp at hl
  | _ :: _, [], hl, _ => by simp at hl
theorem signs_rep {K : Kf} {μ : List Addr} {H : Hp} : ∀ cs : List Nat, RepAll K μ H (cs.map fun c => V.str ⟨#[c]⟩) (cs.map fun c => D.str ⟨#[c]⟩)
  | [] => .nil
  | c :: cs => .cons (.str _) (signs_rep cs)
theorem c_list (hc : X.calm = true) : CallR X (.type "list") (rA X.K E gList) := by
  intro pins s σ H xs us Q I rv ⟨μ, Hf, Fr, M, ds, rs, sr, p⟩
  unfold gList at p
  split at p
  · rename_i z
    split at p
    · rename_i hz
      cases rs with
      | cons r t =>
        cases t; cases r
        obtain ⟨u, rfl, t, rfl⟩ := vals1 rv
        refine call_list_str (I.ok.hd hc) z t (line_le hz) fun h' tk acc' c' kp hl hi => ?_
        have hf := I.hok.fresh (Nat.le_refl s.heap.objs.size)
        refine ⟨.ref s.heap.objs.size, upd H s.heap.objs.size (.lst (z.cps.toList.map fun c => V.str ⟨#[c]⟩)), ?_, rfl, p.new sr hf fun e => rep_lst (signs_rep _) e⟩
        refine I.laid (t' := tk) kp (Nat.le_refl _) ⟨by rw [List.length_map]; exact line_le hz, acc'.toList, c', ?_, by simpa using hl⟩
        have i1 : acc'.size = z.cps.size := hi.1
        refine vals_signs (by simp [i1]) fun j cc u h1 h2 => ?_
        obtain ⟨c2, t2, g1, g2⟩ := hi.2 j u (by simpa using h2)
        rw [Array.getElem?_toList, g1] at h1
        cases h1
        exact ⟨t2, g2⟩
    · exact p.elim
  · rename_i xs
    cases rs with
    | cons r t =>
      cases t
      cases r with
      | tup q t => exact call_list_of pins s σ H _ us Q I rv ⟨_, _, rfl, .inr (same_t sr.ex q), fun l hl => p.new sr hl fun e => rep_lst t e⟩
  · split at p
    · rename_i xs hx
      cases rs with
      | cons r t =>
        cases t
        obtain ⟨a, vs, rfl, q, t⟩ := items_of sr r hx
        exact call_list_of pins s σ H _ us Q I rv ⟨_, _, rfl, .inl q, fun l hl => p.new sr hl fun e => rep_lst t e⟩
    · exact p.elim
  · exact p.elim
end
end Den
namespace Den
open PySem PySem.Spec PyProof.Rows L2
/-- a def of the module, by its name: what its call hands back -/
structure CalG (P : Program) (w : World) (K : Kf) (mg : Str → Option Value) (base : Heap) (k : Nat) (x : Str) (n : Nat) (g : GA) : Prop where
  ex : ∃ (f : Addr) (fd : FuncData) (ps : List Str), mg x = some (.ref f) ∧ PySem.W.keepIn K (.ref f) = true ∧ Binds K fd ps [] ∧ ps.length = n ∧ FnG P w K mg base CX0 k f fd ps g
section
variable {X : Cx} {E : XK} {a b c e o : Expr} {es rest : List Expr} {fa fb fc F : FE} {ft fu : FT} {fg : FA} {pos : Pos} {k : Nat} {x : Str} {p : Pos} {n : Nat} {g : GA}
theorem de_callN (C : CalG X.prog X.w X.K X.mg X.base k x n g) (hr : Room k X.A) (hgd : X.A.guards = some []) (hg : Gl X x) (ha : DA X E (e :: es) fg) (hdb : (x == ("__debug__" : Str)) = false := by decide)
    (he : starEach (e :: es) X.env = (false, eval e X.env) :: starEach es X.env := by rfl) (hpl : (backTo pos (starEach es X.env)).any (·.1) = false := by rfl) : DE X E (.Call (.Name x p) (e :: es) [] pos) (eCall g [] n fg) := by
  obtain ⟨f, fd, ps, hm, hk, hb, rfl, G⟩ := C.ex
  exact de_call G hr hgd hg hm hk hb .nil dflt_nil (fun _ _ _ _ _ _ _ y => y.elim) ha hdb he hpl
theorem de_ty {T : String} (hg : Gl X x) (hm : X.mg x = none) (hv : bootBuiltins x = some (.type T)) (hn : x ≠ "__name__" := by decide) (hd : (x == ("__debug__" : Str)) = false := by decide) : DE X E (.Name x pos) (fun _ M => .ok (.ty T) M) :=
  de_c (t := tC (.ty T)) (.ty T) (pe_bltn hg hm hv rfl hn hd) fun _ _ => .ty T
/-- a tuple of the module -/
def KTup (K : Kf) (a : Addr) (ds : List D) : Prop := ∀ μ Hf, Rep K μ Hf (.ref a) (.tup ds)
theorem ktup_of {K : Kf} {a : Addr} {o : Obj} {its : Array Value} {n : Nat} {vs : List V} {ds : List D} (h : K.lookup a = some o) (hc : o.cls = .type "tuple") (hd : o.data = .seq its n) (hz : its.size ≤ sizeLine) (r : Vals vs its.toList) (q : ∀ μ Hf, RepAll K μ Hf vs ds) : KTup K a ds :=
  fun μ Hf => .tup (.inr ⟨o, its, n, h, hc, hd, hz, r⟩) (q μ Hf)
theorem de_ktup {u : Addr} {ds : List D} (hg : Gl X x) (hm : X.mg x = some (.ref u)) (h : KTup X.K u ds) (hd : (x == ("__debug__" : Str)) = false := by decide) : DE X E (.Name x pos) (fun _ M => .ok (.tup ds) M) := de_glob hg hm (v := .ref u) rfl h hd
theorem de_kint {i : Int} {t : Tok} (hg : Gl X x) (hm : X.mg x = some (.int i t)) (hd : (x == ("__debug__" : Str)) = false := by decide) : DE X E (.Name x pos) (fun _ M => .ok (.int i) M) := de_glob hg hm (v := .int i) ⟨t, rfl⟩ (fun _ _ => .int i) hd
theorem de_kintE {i : Int} (hg : Gl X x) (hm : ∃ t, X.mg x = some (.int i t)) (hd : (x == ("__debug__" : Str)) = false := by decide) : DE X E (.Name x pos) (fun _ M => .ok (.int i) M) := de_kint hg hm.choose_spec hd
theorem de_ktupE {ds : List D} (hg : Gl X x) (hm : ∃ u, X.mg x = some (.ref u) ∧ KTup X.K u ds) (hd : (x == ("__debug__" : Str)) = false := by decide) : DE X E (.Name x pos) (fun _ M => .ok (.tup ds) M) := de_ktup hg hm.choose_spec.1 hm.choose_spec.2 hd
theorem de_fn {f : Addr} (hg : Gl X x) (hm : X.mg x = some (.ref f)) (hd : (x == ("__debug__" : Str)) = false := by decide) : DE X E (.Name x pos) (fun _ M => .ok (.fn f) M) := de_glob hg hm (v := .ref f) rfl (fun _ _ => .fn f) hd
/-- {text: constant} -/
theorem de_dc1 {kx : Str} {w : V} {d : D} {ke ve : Expr} (hk : PE X ke (tC (.str kx))) (hv : PE X ve (tC w)) (r : ∀ μ Hf, Rep X.K μ Hf w d) : DE X E (.Dict [some ke] [ve] pos) (fun _ M => .ok (.dct [.inr kx] [d]) M) := by
  refine pe_imp (pe_disp (pps_cons hk hv pps_nil) (by rfl) (by rfl) (fun z => by cases z) (by show 1 ≤ 15; decide)) fun σ H Q ⟨μ, Hf, Fr, ρ, M, _, s, z⟩ => ?_
  intro q hq
  refine ⟨upd_same, [(.inr kx, w)], rfl, by show 1 ≤ 15; decide, ?_⟩
  rw [upd_upd]
  exact z.new s hq fun e => .dct upd_same rfl (.cons (r _ _) .nil)
@[simp] def eNeg (F : FE) : FE := fun ρ M => (F ρ M).bind fun d M1 => match d with
  | .int i => .ok (.int (-i)) M1
  | _ => .no
theorem de_neg (h : DE X E a F) : DE X E (.UnaryOp .USub a pos) (eNeg F) := by
  refine pe_imp (pe_un un_neg h) fun σ H Q ⟨μ, Hf, Fr, ρ, M, r, s, p⟩ => ?_
  refine ⟨μ, Hf, Fr, ρ, M, r, s, p.split.weak fun d μ1 Hf1 H1 M1 e1 m1 s1 p1 v rv => ?_⟩
  split at p1
  · cases rv; exact ⟨_, rfl, p1.now s1 _ (.int _)⟩
  · exact p1.elim
end
abbrev eNone : FE := fun _ M => .ok .non M
abbrev eBool (b : Bool) : FE := fun _ M => .ok (.bl b) M
abbrev eInt (i : Int) : FE := fun _ M => .ok (.int i) M
abbrev eStr (x : Str) : FE := fun _ M => .ok (.str x) M
abbrev eTy (x : String) : FE := fun _ M => .ok (.ty x) M
abbrev eFn (f : Addr) : FE := fun _ M => .ok (.fn f) M
abbrev eTupC (ds : List D) : FE := fun _ M => .ok (.tup ds) M
abbrev eD1 (k : Str) (i : Int) : FE := fun _ M => .ok (.dct [.inr k] [.int i]) M
abbrev sBk : FS := fun ρ M => .ok (.bk ρ) M
abbrev sCt : FS := fun ρ M => .ok (.ct ρ) M
abbrev sRetN : FS := fun _ M => .ok (.rt .non) M
@[simp] def eJoin (fa fb : FE) : FE := fun ρ M => (fa ρ M).bind fun x M1 => match x with
  | .str _ => (fb ρ M1).bind fun y M2 => gJoin x y M2
  | _ => .no
theorem GD (A : Around) {env : Env} (h : A.guards = some []) : (A.deeper env).guards = some [] := (deeper_guards A env).trans h
end Den
namespace Den
open PySem PySem.Spec PyProof.Rows L2
/-! ### loops and comprehensions by what holds between two turns -/
theorem loop_inv {g : TgD} {body : FS} (I : Ro → Mem → Prop) : ∀ {xs : List D} {ρ : Ro} {M : Mem}, (∀ d ∈ xs, ∀ ρ M, I ρ M → ∃ ρ1 ρ2 M2, g d ρ = some ρ1 ∧ (body ρ1 M = .ok (.nx ρ2) M2 ∨ body ρ1 M = .ok (.ct ρ2) M2) ∧ I ρ2 M2) → I ρ M →
    ∃ ρ' M', loopD g body xs ρ M = .ok (.nx ρ') M' ∧ I ρ' M'
  | [], ρ, M, _, h0 => ⟨ρ, M, rfl, h0⟩
  | d :: ds, ρ, M, h, h0 => by
    obtain ⟨ρ1, ρ2, M2, e1, e2, h2⟩ := h d List.mem_cons_self ρ M h0
    obtain ⟨ρ', M', e3, h3⟩ := loop_inv I (xs := ds) (fun d hd => h d (List.mem_cons_of_mem _ hd)) h2
    refine ⟨ρ', M', ?_, h3⟩
    unfold loopD
    rw [e1]
    rcases e2 with e2 | e2 <;> (dsimp only; rw [e2]; exact e3)
theorem loop_invN {g : TgD} {body : FS} (I : Nat → Ro → Mem → Prop) : ∀ {xs : List D} {ρ : Ro} {M : Mem} (k : Nat), (∀ i d, xs[i]? = some d → ∀ ρ M, I (k + i) ρ M → ∃ ρ1 ρ2 M2, g d ρ = some ρ1 ∧ (body ρ1 M = .ok (.nx ρ2) M2 ∨ body ρ1 M = .ok (.ct ρ2) M2) ∧ I (k + i + 1) ρ2 M2) → I k ρ M →
    ∃ ρ' M', loopD g body xs ρ M = .ok (.nx ρ') M' ∧ I (k + xs.length) ρ' M'
  | [], ρ, M, k, _, h0 => ⟨ρ, M, rfl, h0⟩
  | d :: ds, ρ, M, k, h, h0 => by
    obtain ⟨ρ1, ρ2, M2, e1, e2, h2⟩ := h 0 d rfl ρ M h0
    obtain ⟨ρ', M', e3, h3⟩ := loop_invN I (xs := ds) (k + 1) (fun i d hd ρ M hi => by
      have := h (i + 1) d (by simpa using hd) ρ M (by rw [show k + (i + 1) = k + 1 + i by omega]; exact hi)
      rw [show k + (i + 1) = k + 1 + i by omega] at this
      exact this) h2
    refine ⟨ρ', M', ?_, by rw [List.length_cons, show k + (ds.length + 1) = k + 1 + ds.length by omega]; exact h3⟩
    unfold loopD
    rw [e1]
    rcases e2 with e2 | e2 <;> (dsimp only; rw [e2]; exact e3)
theorem lcD_inv {g : TgD} {t : FT} {f : FE} {ρ : Ro} (I : Mem → Prop) (P : D → Prop) : ∀ {xs : List D} {M : Mem}, (∀ d ∈ xs, ∀ M, I M → ∃ ρ1 b M1, g d ρ = some ρ1 ∧ t ρ1 M = .ok b M1 ∧ I M1 ∧ (b = true → ∃ y M2, f ρ1 M1 = .ok y M2 ∧ P y ∧ I M2)) → I M →
    ∃ ys M', lcD g t f ρ xs M = .ok ys M' ∧ (∀ y ∈ ys, P y) ∧ I M' ∧ ys.length ≤ xs.length
  | [], M, _, h0 => ⟨[], M, rfl, fun _ h => (nomatch h), h0, Nat.le_refl _⟩
  | d :: ds, M, h, h0 => by
    obtain ⟨ρ1, b, M1, e1, e2, h1, hb⟩ := h d List.mem_cons_self M h0
    have hr := fun M => lcD_inv (g := g) (t := t) (f := f) (ρ := ρ) I P (xs := ds) (M := M) fun d hd => h d (List.mem_cons_of_mem _ hd)
    cases b with
    | false =>
      obtain ⟨ys, M', e3, p3, i3, l3⟩ := hr M1 h1
      refine ⟨ys, M', ?_, p3, i3, Nat.le_succ_of_le l3⟩
      unfold lcD
      rw [e1]
      dsimp only
      rw [e2]
      exact e3
    | true =>
      obtain ⟨y, M2, e4, p4, i4⟩ := hb rfl
      obtain ⟨ys, M', e3, p3, i3, l3⟩ := hr M2 i4
      refine ⟨y :: ys, M', ?_, fun z hz => ?_, i3, Nat.succ_le_succ l3⟩
      · unfold lcD
        rw [e1]
        dsimp only
        rw [e2]
        simp only [Out.noX, Out.bind_ok, if_pos]
        rw [e4]
        simp only [Out.noX, Out.bind_ok]
        rw [e3]
        rfl
      · rcases List.mem_cons.mp hz with q | q
        · rw [q]; exact p4
        · exact p3 z q
/-- a comprehension whose turns change nothing: a filter, then a map -/
theorem lcD_pure {g : TgD} {t : FT} {f : FE} {ρ : Ro} {M : Mem} (p : D → Bool) (v : D → D) : ∀ {xs : List D}, (∀ d ∈ xs, ∃ ρ1, g d ρ = some ρ1 ∧ t ρ1 M = .ok (p d) M ∧ (p d = true → f ρ1 M = .ok (v d) M)) →
    lcD g t f ρ xs M = .ok ((xs.filter p).map v) M
  | [], _ => rfl
  | d :: ds, h => by
    obtain ⟨ρ1, e1, e2, e3⟩ := h d List.mem_cons_self
    have ih := lcD_pure (g := g) (t := t) (f := f) (ρ := ρ) (M := M) p v (xs := ds) fun d hd => h d (List.mem_cons_of_mem _ hd)
    unfold lcD
    rw [e1]
    dsimp only
    rw [e2]
    cases hp : p d with
    | false =>
      simp only [Out.noX, Out.bind_ok, List.filter_cons, hp]
      exact ih
    | true =>
      simp only [Out.noX, Out.bind_ok, if_pos, List.filter_cons, hp]
      rw [e3 hp]
      simp only [Out.noX, Out.bind_ok]
      rw [ih]
      rfl
/-! ### how numbers are reckoned -/
theorem mul_ok {i j : Int} {M : Mem} (h : mulC i j) : gMul (.int i) (.int j) M = .ok (.int (i * j)) M := if_pos h
theorem div_ok {i j : Int} {M : Mem} (h : CDivW i j) : gDiv (.int i) (.int j) M = .ok (.int (i / j)) M := if_pos h
theorem mod_ok {i j : Int} {M : Mem} (h : 0 < j) : gMod (.int i) (.int j) M = .ok (.int (i % j)) M := if_pos h
theorem pow_ok {i j : Int} {M : Mem} (h : powC i j) : gPow (.int i) (.int j) M = .ok (.int (i ^ j.toNat)) M := if_pos h
/-! ### texts by their signs -/
abbrev cs (z : Str) : List Nat := z.cps.toList
theorem cs_app (a b : Str) : cs (a ++ b) = cs a ++ cs b := by
  show (Str.append a b).cps.toList = _
  simp [Str.append, cs]
theorem cs_len (z : Str) : z.length = (cs z).length := by simp [Str.length, cs]
theorem cs_cut (z : Str) (lo hi : Option Int) : cs (cutS z lo hi) = cutD (cs z) lo hi := by
  unfold cutS cutD cs
  simp [Str.length]
theorem cut_len {α : Type} (xs : List α) (lo hi : Option Int) : (cutD xs lo hi).length ≤ xs.length := by
  unfold cutD
  rw [List.length_take, List.length_drop]
  omega
theorem cut_mem {α : Type} {xs : List α} {lo hi : Option Int} {x : α} (h : x ∈ cutD xs lo hi) : x ∈ xs := List.mem_of_mem_drop (List.mem_of_mem_take h)
theorem cs_join {sep : Str} (hs : cs sep = []) : ∀ ys : List Str, cs (Txt.join sep ys) = (ys.map cs).flatten := by
  intro ys
  rw [TL.join_eq]
  induction ys with
  | nil => rfl
  | cons x r ih =>
    cases r with
    | nil => simp [Str.join]
    | cons y r =>
      show cs (x ++ sep ++ Str.join sep (y :: r)) = _
      rw [cs_app, cs_app, hs, ih]
      simp
theorem mul_l {i j : Int} (h : -(2 ^ 64) < i ∧ i < 2 ^ 64) : mulC i j := .inl (.inl h)
theorem mul_r {i j : Int} (h : -(2 ^ 64) < j ∧ j < 2 ^ 64) : mulC i j := .inl (.inr h)
end Den
/-! Den11: lists that change (append, pop, list(...)), text[::-1], text.upper(), is of bools, three names at once. -/
namespace Den
open PySem PySem.Spec PyProof.Rows L2
section
variable {X : Cx} {E : XK} {a b c e o : Expr} {es : List Expr} {fa fb fc F : FE} {fg : FA} {pos : Pos} {st : Stmt}
/-! ### is, is not of bools -/
@[simp] def gIsB (f : Bool → Bool) : G2 := fun x y M => match x, y with
  | .bl a, .bl b => .ok (.bl (f (decide (a = b)))) M
  | _, _ => .no
theorem o_isB : OpR X (compareOp .Is) (rD2 X.K E (gIsB fun b => b)) := by
  refine opr_imp op_isBl fun x y H Q ⟨μ, Hf, Fr, M, d1, d2, r1, r2, s, p⟩ => ?_
  unfold gIsB at p
  split at p
  · cases r1; cases r2; exact ⟨_, _, rfl, rfl, p.now s _ (.bl _)⟩
  · exact p.elim
theorem o_isnotB : OpR X (compareOp .IsNot) (rD2 X.K E (gIsB fun b => !b)) := by
  refine opr_imp op_notBl fun x y H Q ⟨μ, Hf, Fr, M, d1, d2, r1, r2, s, p⟩ => ?_
  unfold gIsB at p
  split at p
  · cases r1; cases r2; exact ⟨_, _, rfl, rfl, p.now s _ (.bl _)⟩
  · exact p.elim
/-! ### three names at once -/
@[simp] def sPar3 (i j l : Nat) (fg : FA) : FS := fun ρ M => (fg ρ M).bind fun ds M1 => match ds with
  | [x, y, z] => .ok (.nx (((ρ.set i (some x)).set j (some y)).set l (some z))) M1
  | _ => .no
theorem ds_par3 {i j l : Nat} (h : PS X st (tPar3 i j l (taF X.K E fg))) : DS X E st (sPar3 i j l fg) := by
  refine ps_imp h fun N σ H ⟨μ, Hf, Fr, ρ, M, r, s, p⟩ => ?_
  refine ⟨μ, Hf, Fr, ρ, M, r, s, p.split.weak fun ds μ1 Hf1 H1 M1 e1 m1 s1 p1 vs rs => ?_⟩
  split at p1
  · cases rs with
    | cons r1 t => cases t with
      | cons r2 t => cases t with
        | cons r3 t => cases t; exact ⟨_, _, _, rfl, p1.now s1 _ ((((r.mono e1 m1).put i r1).put j r2).put l r3)⟩
  · exact p1.elim
/-! ### text.upper() -/
@[simp] def eUpper (F : FE) : FE := fun ρ M => (F ρ M).bind fun x M1 => match x with
  | .str z => if z.length ≤ lineD then .ok (.str (Txt.upper z)) M1 else .no
  | _ => .no
theorem de_upper {apos : Pos} (ho : DE X E o F) (hbase : attributeBase o "upper" X.env (eval o X.env) = eval o X.env := by rfl) (hline : (apos.endLine == pos.line) = true := by rfl) :
    DE X E (.Call (.Attribute o "upper" apos) [] [] pos) (eUpper F) := by
  refine pe_imp (pe_upper ho hbase hline) fun σ H Q ⟨μ, Hf, Fr, ρ, M, r, s, p⟩ => ?_
  refine ⟨μ, Hf, Fr, ρ, M, r, s, p.split.weak fun x μ1 Hf1 H1 M1 e1 m1 s1 p1 v1 r1 => ?_⟩
  split at p1
  · split at p1
    · rename_i hz
      cases r1
      exact ⟨⟨_, rfl⟩, _, rfl, rfl, Nat.le_trans hz (by unfold lineD; decide), p1.now s1 _ (.str _)⟩
    · exact p1.elim
  · exact p1.elim
/-! ### list.append, list.pop -/
theorem RepAll.snoc {K : Kf} {μ : List Addr} {H : Hp} {v : V} {d : D} (r : Rep K μ H v d) : ∀ {vs : List V} {ds : List D}, RepAll K μ H vs ds → RepAll K μ H (vs ++ [v]) (ds ++ [d])
  | _, _, .nil => .cons r .nil
  | _, _, .cons q t => .cons q (RepAll.snoc r t)
@[simp] def gAppend (o d : D) (M : Mem) : Out D := match o with
  | .loc n => match M[n]? with
    | some (some xs) => if xs.length + 1 ≤ lineD then .ok .non (M.set n (some (xs ++ [d]))) else .no
    | _ => .no
  | _ => .no
@[simp] def locOk (o : D) (M : Mem) : Bool := match o with
  | .loc n => match M[n]? with
    | some (some _) => true
    | _ => false
  | _ => false
@[simp] def eAppend (fo fa : FE) : FE := fun ρ M => (fo ρ M).bind fun o M1 => if locOk o M1 = true then (fa ρ M1).bind fun d M2 => gAppend o d M2 else .no
@[simp] def gPop (o i : D) (M : Mem) : Out D := match o, i with
  | .loc n, .int k => match M[n]? with
    | some (some xs) => if -1000000 ≤ k ∧ k ≤ 1000000 then match ixN xs.length k with
      | some j => match xs[j]? with
        | some d => .ok d (M.set n (some (xs.eraseIdx j)))
        | none => .no
      | none => .no
      else .no
    | _ => .no
  | _, _ => .no
@[simp] def ePop (fo fa : FE) : FE := fun ρ M => (fo ρ M).bind fun o M1 => if locOk o M1 = true then (fa ρ M1).bind fun d M2 => gPop o d M2 else .no
/-- the value of a changing list, known by its number, stays so behind whatever the argument does, if the number still is one -/
theorem loc_list {K : Kf} {μ : List Addr} {Hf Fr H : Hp} {M : Mem} {n : Nat} {xs : List D} {v : V} (s : SR K μ Hf Fr H M) (hM : M[n]? = some (some xs)) (r : Rep K μ Hf v (.loc n)) :
    ∃ a vs, v = .ref a ∧ μ[n]? = some a ∧ H a = some (.lst vs) ∧ RepAll K μ Hf vs xs := by
  cases r with
  | loc q =>
    obtain ⟨a, vs, h1, h2, h3, h4, h5⟩ := s.cell _ _ hM
    rw [q] at h1; cases h1
    exact ⟨_, _, rfl, q, h4, h5⟩
theorem locOk_ty {K : Kf} {μ : List Addr} {Hf Fr H : Hp} {M : Mem} {v : V} {d : D} (s : SR K μ Hf Fr H M) (r : Rep K μ Hf v d) (h : locOk d M = true) : tyV K "list" v H := by
  unfold locOk at h
  split at h
  · split at h
    · rename_i xs hM
      obtain ⟨a, vs, rfl, _, q, _⟩ := loc_list s hM r
      exact .inl ⟨rfl, _, SqL.of q⟩
    · cases h
  · cases h
theorem de_append {apos : Pos} (ho : DE X E o fa) (ha : DE X E e fb)
    (hbase : attributeBase o "append" X.env (eval o X.env) = eval o X.env := by rfl)
    (hfew : ((backTo pos (starEach [e] X.env)).all (fun x => !x.1) && (backToKw pos (keywordEach [] X.env)).all (fun x => x.1.isSome)
      && decide ([e].length + ([] : List Keyword).length + (if ([] : List Keyword).isEmpty then 0 else 1) < 30)) = true := by rfl)
    (hline : (apos.endLine == pos.line) = true := by rfl) (hs : starEach [e] X.env = (false, eval e X.env) :: starEach [] X.env := by rfl) (hplain : (backTo pos (starEach [] X.env)).any (·.1) = false := by rfl) :
    DE X E (.Call (.Attribute o "append" apos) [e] [] pos) (eAppend fa fb) := by
  refine pe_imp (pe_bm PySem.F.plainAttrs_list PySem.F.slot_list_append PySem.F.type_list_append mt_append ho (pa_cons ha pa_nil hs) hbase hfew hline hs hplain) fun σ H Q ⟨μ, Hf, Fr, ρ, M, r, s, p⟩ => ?_
  refine ⟨μ, Hf, Fr, ρ, M, r, s, p.split.weak fun x μ1 Hf1 H1 M1 e1 m1 s1 p1 v1 r1 => ?_⟩
  split at p1
  · rename_i hk
    refine ⟨locOk_ty s1 r1 hk, μ1, Hf1, Fr, ρ, M1, r.mono e1 m1, s1, p1.split.weak fun y μ2 Hf2 H2 M2 e2 m2 s2 p2 v2 r2 => ?_⟩
    unfold gAppend at p2
    split at p2
    · split at p2
      · rename_i n _ xs hM
        split at p2
        · rename_i hz
          obtain ⟨a, vs, rfl, ha, q, t⟩ := loc_list s2 hM (Rep.mono e2 m2 _ _ r1)
          refine ⟨a, vs, v2, rfl, rfl, q, ?_, p2.now (s2.turn hM ha (t.snoc r2)) _ .non⟩
          have := line_le hz
          rw [t.length]
          omega
        · exact p2.elim
      · exact p2.elim
    · exact p2.elim
  · exact p1.elim
theorem de_pop {apos : Pos} (ho : DE X E o fa) (ha : DE X E e fb)
    (hbase : attributeBase o "pop" X.env (eval o X.env) = eval o X.env := by rfl)
    (hfew : ((backTo pos (starEach [e] X.env)).all (fun x => !x.1) && (backToKw pos (keywordEach [] X.env)).all (fun x => x.1.isSome)
      && decide ([e].length + ([] : List Keyword).length + (if ([] : List Keyword).isEmpty then 0 else 1) < 30)) = true := by rfl)
    (hline : (apos.endLine == pos.line) = true := by rfl) (hs : starEach [e] X.env = (false, eval e X.env) :: starEach [] X.env := by rfl) (hplain : (backTo pos (starEach [] X.env)).any (·.1) = false := by rfl) :
    DE X E (.Call (.Attribute o "pop" apos) [e] [] pos) (ePop fa fb) := by
  refine pe_imp (pe_bm PySem.F.plainAttrs_list PySem.F.slot_list_pop PySem.F.type_list_pop mt_popAt ho (pa_cons ha pa_nil hs) hbase hfew hline hs hplain) fun σ H Q ⟨μ, Hf, Fr, ρ, M, r, s, p⟩ => ?_
  refine ⟨μ, Hf, Fr, ρ, M, r, s, p.split.weak fun x μ1 Hf1 H1 M1 e1 m1 s1 p1 v1 r1 => ?_⟩
  split at p1
  · rename_i hk
    refine ⟨locOk_ty s1 r1 hk, μ1, Hf1, Fr, ρ, M1, r.mono e1 m1, s1, p1.split.weak fun y μ2 Hf2 H2 M2 e2 m2 s2 p2 v2 r2 => ?_⟩
    unfold gPop at p2
    split at p2
    · split at p2
      · rename_i n k _ xs hM
        split at p2
        · rename_i hz
          split at p2
          · rename_i j hj
            split at p2
            · rename_i d hd
              obtain ⟨a, vs, rfl, ha, q, t⟩ := loc_list s2 hM (Rep.mono e2 m2 _ _ r1)
              cases r2
              obtain ⟨w, hw, rw⟩ := t.at hd
              refine ⟨a, vs, k, j, w, rfl, rfl, q, by omega, by omega, by rw [t.length]; exact (ixN_seq hj).1, hw, p2.now (s2.turn hM ha (t.erase j)) _ rw⟩
            · exact p2.elim
          · exact p2.elim
        · exact p2.elim
      · exact p2.elim
    · exact p2.elim
  · exact p1.elim
/-! ### list(...) as a list that may change -/
@[simp] def gListM : GA := fun ds M => match ds with
  | [.str z] => if z.length ≤ lineD then .ok (.loc M.length) (M ++ [some (signs z)]) else .no
  | [.tup xs] => .ok (.loc M.length) (M ++ [some xs])
  | [d] => match itemsD d M with
    | some xs => .ok (.loc M.length) (M ++ [some xs])
    | none => .no
  | _ => .no
theorem c_listM (hc : X.calm = true) : CallR X (.type "list") (rA X.K E gListM) := by
  intro pins s σ H xs us Q I rv ⟨μ, Hf, Fr, M, ds, rs, sr, p⟩
  unfold gListM at p
  split at p
  · rename_i z
    split at p
    · rename_i hz
      cases rs with
      | cons r t =>
        cases t; cases r
        obtain ⟨u, rfl, t, rfl⟩ := vals1 rv
        refine call_list_str (I.ok.hd hc) z t (line_le hz) fun h' tk acc' c' kp hl hi => ?_
        have hf := I.hok.fresh (Nat.le_refl s.heap.objs.size)
        refine ⟨.ref s.heap.objs.size, upd H s.heap.objs.size (.lst (z.cps.toList.map fun c => V.str ⟨#[c]⟩)), ?_, rfl, p.newLoc sr hf (signs_rep _)⟩
        refine I.laid (t' := tk) kp (Nat.le_refl _) ⟨by rw [List.length_map]; exact line_le hz, acc'.toList, c', ?_, by simpa using hl⟩
        have i1 : acc'.size = z.cps.size := hi.1
        refine vals_signs (by simp [i1]) fun j cc u h1 h2 => ?_
        obtain ⟨c2, t2, g1, g2⟩ := hi.2 j u (by simpa using h2)
        rw [Array.getElem?_toList, g1] at h1
        cases h1
        exact ⟨t2, g2⟩
    · exact p.elim
  · rename_i xs
    cases rs with
    | cons r t =>
      cases t
      cases r with
      | tup q t => exact call_list_of pins s σ H _ us Q I rv ⟨_, _, rfl, .inr (same_t sr.ex q), fun l hl => p.newLoc sr hl t⟩
  · split at p
    · rename_i xs hx
      cases rs with
      | cons r t =>
        cases t
        obtain ⟨a, vs, rfl, q, t⟩ := items_of sr r hx
        exact call_list_of pins s σ H _ us Q I rv ⟨_, _, rfl, .inl q, fun l hl => p.newLoc sr hl t⟩
    · exact p.elim
  · exact p.elim
/-! ### text[::-1] -/
def backS (z : Str) : Str := ⟨z.cps.toList.reverse.toArray⟩
theorem rev_idx (n : Nat) : Builtin.Str.strSliceIndices none none (-1) n = (List.range n).reverse := by
  unfold Builtin.Str.strSliceIndices
  show sliceRange ((n : Int) - 1) (-1) (-1) = _
  rw [PySem.W.krv_sliceRange, PySem.W.krv_range]
theorem rev_pick (z : Str) : ((Builtin.Str.strSliceIndices none none (-1) z.length).filterMap (z.cps[·]?)).toArray = (backS z).cps := by
  rw [rev_idx, List.filterMap_reverse]
  show ((List.range z.cps.size).filterMap (z.cps[·]?)).reverse.toArray = _
  rw [PySem.W.krv_all]
  rfl
@[simp] def eRev (F : FE) : FE := fun ρ M => (F ρ M).bind fun x M1 => match x with
  | .str z => if z.length ≤ lineD then .ok (.str (backS z)) M1 else .no
  | _ => .no
def tRevS (te : TE) : TE := fun σ H Q => te σ H fun x H1 => ∃ z, x = .str z ∧ z.length ≤ sizeLine ∧ Q (.str (backS z)) H1
theorem pe_revS {e : Expr} {te : TE} {k : Nat} {p1 p2 p3 pos : Pos} (he : PE X e te) : PE X (.Subscript e (.Slice none none (some (.UnaryOp .USub (.Constant (.int 1) k p1) p2)) p3) pos) (tRevS te) := by
  refine ⟨fun pins s σ H Q I h => ?_⟩
  refine Subscript_ (thn (he.run pins s σ H _ I h) fun v s1 ⟨x, H1, I1, r1, q1⟩ => ?_)
  obtain ⟨z, ex, hz, q⟩ := q1
  subst ex
  obtain ⟨t, rfl⟩ := r1
  have hst : PO X (some (.UnaryOp .USub (.Constant (.int 1) k p1) p2)) (tPart (tUn (rU fun i => .int (-i)) (tC (.int 1)))) := po_some (pe_un un_neg pe_int)
  refine wpAny_Slice (thn (po_none.run pins s1 σ H1 (fun o H2 => o = none ∧ H2 = H1) I1 ⟨rfl, rfl⟩) fun vl s2 ⟨l, H2, I2, pl, el, e2⟩ => ?_)
  subst el e2
  refine thn (po_none.run pins s2 σ H2 (fun o H3 => o = none ∧ H3 = H2) I2 ⟨rfl, rfl⟩) fun vu s3 ⟨u, H3, I3, pu, eu, e3⟩ => ?_
  subst eu e3
  refine thn (hst.run pins s3 σ H3 (fun o H4 => o = some (-1) ∧ H4 = H3) I3 ⟨1, rfl, -1, rfl, rfl, rfl⟩) fun vs s4 ⟨o, H4, I4, ps, eo, e4⟩ => ?_
  subst eo e4
  have I5 : Inv X pins σ H4 { s4 with heap := s4.heap.push { cls := .type "slice", data := .fields #[vl, vu, vs] } } := I4.kept (t' := s4.toks) fun b ob q => Heap.get?_push_of_some _ q
  obtain ⟨l, rfl, hl⟩ := IsPart.raw pl
  obtain ⟨u, rfl, hu⟩ := IsPart.raw pu
  obtain ⟨w, rfl, hw⟩ := IsPart.raw ps
  show wpAny (model X.prog X.w) X.A (subscriptTail e (.Slice none none (some (.UnaryOp .USub (.Constant (.int 1) k p1) p2)) p3) (.str z t) (.ref s4.heap.objs.size)) (EP X pins σ Q) X.xe _
  refine tail_any (ops := [.str z t, .ref s4.heap.objs.size]) (typeIs_str _ _ _) F.slot_str_getitem.lookup ?_ (by with_unfolding_all rfl)
  refine wpAny_getItem_str_slice (l := l) (u := u) (st := w) ⟨_, Heap.get?_push_size _ rfl, rfl, rfl⟩ ?_ ?_
  · rw [hw]; rfl
  · have e1 : sliceMade z t l u w = Made.str (backS z) := by
      have e2 : slicePicked z l u w = Builtin.Str.strSliceIndices none none (-1) z.length := by
        unfold slicePicked
        rw [hl, hu, hw]
        rfl
      unfold sliceMade
      rw [hw, if_neg (by simp), e2, rev_pick]
    rw [e1]
    refine ⟨?_, .str _, H4, I5.tok _, ⟨_, rfl⟩, q⟩
    have : (backS z).length = z.length := by
      show z.cps.toList.reverse.toArray.size = z.cps.size
      simp
    rw [this]
    exact hz
theorem de_rev {k : Nat} {p1 p2 p3 : Pos} (he : DE X E e F) : DE X E (.Subscript e (.Slice none none (some (.UnaryOp .USub (.Constant (.int 1) k p1) p2)) p3) pos) (eRev F) := by
  refine pe_imp (pe_revS he) fun σ H Q ⟨μ, Hf, Fr, ρ, M, r, s, p⟩ => ?_
  refine ⟨μ, Hf, Fr, ρ, M, r, s, p.split.weak fun x μ1 Hf1 H1 M1 e1 m1 s1 p1 v1 r1 => ?_⟩
  split at p1
  · split at p1
    · rename_i hz
      cases r1
      exact ⟨_, rfl, line_le hz, p1.now s1 _ (.str _)⟩
    · exact p1.elim
  · exact p1.elim
end
end Den
namespace K02
open PySem PySem.Spec PyProof.Rows L2 Den
section
variable {P : Program} {w : World} {K : Kf} {mg : Str → Option Value} {base : Heap}
abbrev topS (i : Nat) : Stmt := PySem.Challenge.pw_fallsback_k02_whole_parts_of_words.main.body.getD i (.Pass ⟨0, 0, 0, 0⟩)
/-- what the module's top has left -/
structure Txt (K : Kf) (mg : Str → Option Value) : Prop where
  b_abs : mg "abs" = none
  b_all : mg "all" = none
  b_int : mg "int" = none
  b_isinstance : mg "isinstance" = none
  b_len : mg "len" = none
  b_list : mg "list" = none
  b_max : mg "max" = none
  b_min : mg "min" = none
  b_range : mg "range" = none
  b_repr : mg "repr" = none
  b_str : mg "str" = none
  c_MAX_LETTERS : ∃ t, mg "MAX_LETTERS" = some (.int 8 t)
/-! is_word -/
abbrev s_is_word : Stmt := topS 2
abbrev N_is_word : List Str := ["value", "letter"]
theorem sc_is_word : FnScope N_is_word ["value"] (defScope s_is_word) := ⟨rfl, rfl, rfl, by decide +kernel, rfl, by decide +kernel, by decide +kernel⟩
def f_is_word : FS := (sSeq (sIf (tOrF (tNotF (fTru (eApp gIsi (aCons (eVar 0) (aCons (eTy "str") aNil))))) (tNotF (fB (eChain gLe' gLe' (eInt 1) (eApp gLen (aCons (eVar 0) aNil)) (eInt 8))))) (sRet (eBool false)) sNx) (sRet (eApp (gAll fun bs => bs.all id) (aCons (eLc (iVal (eVar 0)) (gNm 1) [1] tTrue (eChain gLe' gLe' (eStr "a") (eVar 1) (eStr "z"))) aNil))))
def g_is_word : GA := defF 2 (f_is_word)
theorem ok_is_word {f : Addr} {fd : FuncData} (F : Fun K "is_word" "is_word" s_is_word f fd) (T : Txt K mg) : FnG P w K mg base CX0 1 f fd ["value"] (g_is_word) :=
  fnG_of F sc_is_word fun cdv A outer s H E hr hgd => by
    unfold f_is_word
    exact (ds_cons (ds_if (dt_w (dw_or (dt_not (dt_tru (de_bi c_isi (by rfl) T.b_isinstance (by decide +kernel) (da_cons (de_var (pv 0)) (da_cons (de_ty (by rfl) T.b_str (by decide +kernel)) da_nil))))) (dw_or1 (dt_not (dt_chain o_le o_le de_int (de_bi c_len (by rfl) T.b_len (by decide +kernel) (da_cons (de_var (pv 0)) da_nil)) (de_kintE (by rfl) T.c_MAX_LETTERS)))))) (ds_one (ds_ret de_bl)) ds_nil) (ds_one (ds_ret (de_bi (c_all rfl) (by rfl) T.b_all (by decide +kernel) (da_cons (de_lc rfl sc_is_word.nd (di_val (de_var (pv 0))) (blkOk_by (own := [("letter", 1)]) (N := N_is_word) (sc := defScope s_is_word) (by decide +kernel)) (by rfl) (by decide) (fun _ _ _ _ _ => (dg_name (pg_name (i := 1) sc_is_word.nd rfl (by first | exact Or.inl rfl | exact Or.inr rfl)))) (fun _ _ _ _ _ => dts_nil) (fun _ _ _ _ _ => (de_chain o_le o_le de_str (de_var (pv 1)) de_str))) da_nil)))))
/-! _law_stock -/
abbrev s__law_stock : Stmt := topS 4
abbrev N__law_stock : List Str := ["_law_script", "_law_at", "_law_cell", "_law_great", "_law_mixed"]
theorem sc__law_stock : FnScope N__law_stock ["_law_script", "_law_at"] (defScope s__law_stock) := ⟨rfl, rfl, rfl, by decide +kernel, rfl, by decide +kernel, by decide +kernel⟩
def f__law_stock : FS := (sSeq (sSet 2 (eIf (fB (eTwo gLt' (eVar 1) (eApp gLen (aCons (eVar 0) aNil)))) (eTwo gIx (eVar 0) (eVar 1)) (eTwo gAdd (eTwo gMul (eInt 43) (eVar 1)) (eInt 17)))) (sSeq (sSet 3 (eTwo gMod (eApp gInt (aCons (eApp gAbs (aCons (eVar 2) aNil)) aNil)) (eTwo gPow (eTwo gPow (eInt 10) (eInt 60)) (eInt 11)))) (sSeq (sSet 4 (eTwo gAdd (eTwo gAdd (eTwo gAdd (eTwo gMul (eTwo gMod (eApp gInt (aCons (eVar 3) aNil)) (eInt 2147483423)) (eInt 78713)) (eTwo gMul (eInt 6007) (eVar 1))) (eTwo gMul (eInt 29) (eApp gInt (aCons (eTwo gLt' (eVar 2) (eInt 0)) aNil)))) (eInt 53))) (sRet (eLoc (aCons (eApp gMax (aCons (eInt 0) (aCons (eTwo gSub (eVar 3) (eTwo gPow (eInt 10) (eInt 18))) aNil))) (aCons (eTwo gMod (eApp gInt (aCons (eVar 4) aNil)) (eInt 2305843009213693907)) (aCons (eInt 0) aNil))))))))
def g__law_stock : GA := defF 5 (f__law_stock)
theorem ok__law_stock {f : Addr} {fd : FuncData} (F : Fun K "_law_stock" "_law_stock" s__law_stock f fd) (T : Txt K mg) : FnG P w K mg base CX0 1 f fd ["_law_script", "_law_at"] (g__law_stock) :=
  fnG_of F sc__law_stock fun cdv A outer s H E hr hgd => by
    unfold f__law_stock
    exact (ds_cons (ds_set (ps_set (i := 2) sc__law_stock.nd rfl (by first | exact Or.inl rfl | exact Or.inr rfl) (de_ifx (dt_of o_lt (de_var (pv 1)) (de_bi c_len (by rfl) T.b_len (by decide +kernel) (da_cons (de_var (pv 0)) da_nil)) (nomark _)) (de_ix (de_var (pv 0)) (de_var (pv 1))) (de_two o_add (de_two o_mul de_int (de_var (pv 1))) de_int)))) (ds_cons (ds_set (ps_set (i := 3) sc__law_stock.nd rfl (by first | exact Or.inl rfl | exact Or.inr rfl) (de_two o_mod (de_bt c_int (by rfl) T.b_int (by decide +kernel) (da_cons (de_bi c_abs (by rfl) T.b_abs (by decide +kernel) (da_cons (de_var (pv 2)) da_nil)) da_nil)) (de_two o_pow (de_two o_pow de_int de_int) de_int)))) (ds_cons (ds_set (ps_set (i := 4) sc__law_stock.nd rfl (by first | exact Or.inl rfl | exact Or.inr rfl) (de_two o_add (de_two o_add (de_two o_add (de_two o_mul (de_two o_mod (de_bt c_int (by rfl) T.b_int (by decide +kernel) (da_cons (de_var (pv 3)) da_nil)) de_int) de_int) (de_two o_mul de_int (de_var (pv 1)))) (de_two o_mul de_int (de_bt c_int (by rfl) T.b_int (by decide +kernel) (da_cons (de_cmp o_lt (de_var (pv 2)) de_int (nomark _)) da_nil)))) de_int))) (ds_one (ds_ret (de_loc (da_cons (de_bi (c_max rfl) (by rfl) T.b_max (by decide +kernel) (da_cons de_int (da_cons (de_two o_sub (de_var (pv 3)) (de_two o_pow de_int de_int)) da_nil))) (da_cons (de_two o_mod (de_bt c_int (by rfl) T.b_int (by decide +kernel) (da_cons (de_var (pv 4)) da_nil)) de_int) (da_cons de_int da_nil)))))))))
/-! _law_draw -/
abbrev s__law_draw : Stmt := topS 5
abbrev N__law_draw : List Str := ["_law_stock_here", "_law_total", "_law_one", "_law_two", "_law_found"]
theorem sc__law_draw : FnScope N__law_draw ["_law_stock_here", "_law_total"] (defScope s__law_draw) := ⟨rfl, rfl, rfl, by decide +kernel, rfl, by decide +kernel, by decide +kernel⟩
def f__law_draw : FS := (sSeq (sIf (fB (eTwo gGt (eTwo gIx (eVar 0) (eInt 0)) (eInt 0))) (sSeq (sSet 4 (eTwo gMod (eApp gInt (aCons (eTwo gIx (eVar 0) (eInt 0)) aNil)) (eVar 1))) (sSeq (sSetIx (eTwo gDiv (eTwo gIx (eVar 0) (eInt 0)) (eVar 1)) (eVar 0) (eInt 0)) (sRet (eVar 4)))) sNx) (sSeq (sSetIx (eTwo gAdd (eTwo gIx (eVar 0) (eInt 2)) (eInt 1)) (eVar 0) (eInt 2)) (sSeq (sSet 2 (eTwo gMod (eApp gInt (aCons (eTwo gAdd (eTwo gIx (eVar 0) (eInt 1)) (eTwo gMul (eInt 1000357) (eTwo gIx (eVar 0) (eInt 2)))) aNil)) (eInt 2305843009213693951))) (sSeq (sSet 3 (eTwo gAdd (eTwo gMul (eTwo gMod (eApp gInt (aCons (eTwo gMul (eVar 2) (eVar 2)) aNil)) (eInt 2305843009213693921)) (eVar 2)) (eTwo gMul (eInt 9029) (eTwo gIx (eVar 0) (eInt 2))))) (sRet (eTwo gMod (eApp gInt (aCons (eTwo gDiv (eTwo gMod (eApp gInt (aCons (eVar 3) aNil)) (eInt 2305843009213693907)) (eInt 16384)) aNil)) (eVar 1)))))))
def g__law_draw : GA := defF 5 (f__law_draw)
theorem ok__law_draw {f : Addr} {fd : FuncData} (F : Fun K "_law_draw" "_law_draw" s__law_draw f fd) (T : Txt K mg) : FnG P w K mg base CX0 1 f fd ["_law_stock_here", "_law_total"] (g__law_draw) :=
  fnG_of F sc__law_draw fun cdv A outer s H E hr hgd => by
    unfold f__law_draw
    exact (ds_cons (ds_if (dt_of o_gt (de_ix (de_var (pv 0)) de_int) de_int (nomark _)) (ds_cons (ds_set (ps_set (i := 4) sc__law_draw.nd rfl (by first | exact Or.inl rfl | exact Or.inr rfl) (de_two o_mod (de_bt c_int (by rfl) T.b_int (by decide +kernel) (da_cons (de_ix (de_var (pv 0)) de_int) da_nil)) (de_var (pv 1))))) (ds_cons (ds_setIx (de_two o_div (de_ix (de_var (pv 0)) de_int) (de_var (pv 1))) (de_var (pv 0)) de_int) (ds_one (ds_ret (de_var (pv 4)))))) ds_nil) (ds_cons (ds_setIx (de_two o_add (de_ix (de_var (pv 0)) de_int) de_int) (de_var (pv 0)) de_int) (ds_cons (ds_set (ps_set (i := 2) sc__law_draw.nd rfl (by first | exact Or.inl rfl | exact Or.inr rfl) (de_two o_mod (de_bt c_int (by rfl) T.b_int (by decide +kernel) (da_cons (de_two o_add (de_ix (de_var (pv 0)) de_int) (de_two o_mul de_int (de_ix (de_var (pv 0)) de_int))) da_nil)) de_int))) (ds_cons (ds_set (ps_set (i := 3) sc__law_draw.nd rfl (by first | exact Or.inl rfl | exact Or.inr rfl) (de_two o_add (de_two o_mul (de_two o_mod (de_bt c_int (by rfl) T.b_int (by decide +kernel) (da_cons (de_two o_mul (de_var (pv 2)) (de_var (pv 2))) da_nil)) de_int) (de_var (pv 2))) (de_two o_mul de_int (de_ix (de_var (pv 0)) de_int))))) (ds_one (ds_ret (de_two o_mod (de_bt c_int (by rfl) T.b_int (by decide +kernel) (da_cons (de_two o_div (de_two o_mod (de_bt c_int (by rfl) T.b_int (by decide +kernel) (da_cons (de_var (pv 3)) da_nil)) de_int) de_int) da_nil)) (de_var (pv 1)))))))))
/-! _law_pick -/
abbrev s__law_pick : Stmt := topS 6
abbrev N__law_pick : List Str := ["_law_stock_here", "_law_items"]
theorem sc__law_pick : FnScope N__law_pick ["_law_stock_here", "_law_items"] (defScope s__law_pick) := ⟨rfl, rfl, rfl, by decide +kernel, rfl, by decide +kernel, by decide +kernel⟩
def f__law_pick : FS := (sRet (eTwo gIx (eVar 1) (eCall (g__law_draw) [] 2 (aCons (eVar 0) (aCons (eApp gLen (aCons (eVar 1) aNil)) aNil)))))
def g__law_pick : GA := defF 2 (f__law_pick)
theorem ok__law_pick {f : Addr} {fd : FuncData} (F : Fun K "_law_pick" "_law_pick" s__law_pick f fd) (T : Txt K mg) (C__law_draw : CalG P w K mg base 1 "_law_draw" 2 (g__law_draw)) : FnG P w K mg base CX0 2 f fd ["_law_stock_here", "_law_items"] (g__law_pick) :=
  fnG_of F sc__law_pick fun cdv A outer s H E hr hgd => by
    unfold f__law_pick
    exact (ds_one (ds_ret (de_ix (de_var (pv 1)) (de_callN C__law_draw (hr.mono (by decide)) (GD A hgd) (by rfl) (da_cons (de_var (pv 0)) (da_cons (de_bi c_len (by rfl) T.b_len (by decide +kernel) (da_cons (de_var (pv 1)) da_nil)) da_nil))))))
/-! _law_shuffled -/
abbrev s__law_shuffled : Stmt := topS 7
abbrev N__law_shuffled : List Str := ["_law_stock_here", "_law_items", "_law_left", "_law_turn"]
theorem sc__law_shuffled : FnScope N__law_shuffled ["_law_stock_here", "_law_items"] (defScope s__law_shuffled) := ⟨rfl, rfl, rfl, by decide +kernel, rfl, by decide +kernel, by decide +kernel⟩
def f__law_shuffled : FS := (sSeq (sSet 2 (eApp gListM (aCons (eVar 1) aNil))) (sRet (eLc (iRg1 (aCons (eApp gLen (aCons (eVar 1) aNil)) aNil)) (gNm 3) [3] tTrue (ePop (eVar 2) (eCall (g__law_draw) [] 2 (aCons (eVar 0) (aCons (eApp gLen (aCons (eVar 2) aNil)) aNil)))))))
def g__law_shuffled : GA := defF 4 (f__law_shuffled)
theorem ok__law_shuffled {f : Addr} {fd : FuncData} (F : Fun K "_law_shuffled" "_law_shuffled" s__law_shuffled f fd) (T : Txt K mg) (C__law_draw : CalG P w K mg base 1 "_law_draw" 2 (g__law_draw)) : FnG P w K mg base CX0 2 f fd ["_law_stock_here", "_law_items"] (g__law_shuffled) :=
  fnG_of F sc__law_shuffled fun cdv A outer s H E hr hgd => by
    unfold f__law_shuffled
    exact (ds_cons (ds_set (ps_set (i := 2) sc__law_shuffled.nd rfl (by first | exact Or.inl rfl | exact Or.inr rfl) (de_bt (c_listM rfl) (by rfl) T.b_list (by decide +kernel) (da_cons (de_var (pv 1)) da_nil)))) (ds_one (ds_ret (de_lc rfl sc__law_shuffled.nd (di_range1 (by rfl) T.b_range (da_cons (de_bi c_len (by rfl) T.b_len (by decide +kernel) (da_cons (de_var (pv 1)) da_nil)) da_nil)) (blkOk_by (own := [("_law_turn", 3)]) (N := N__law_shuffled) (sc := defScope s__law_shuffled) (by decide +kernel)) (by rfl) (by decide) (fun _ _ _ _ _ => (dg_name (pg_name (i := 3) sc__law_shuffled.nd rfl (by first | exact Or.inl rfl | exact Or.inr rfl)))) (fun _ _ _ _ _ => dts_nil) (fun _ _ _ _ _ => (de_pop (de_var (pv 2)) (de_callN C__law_draw (hr.mono (by decide)) (GD A hgd) (by rfl) (da_cons (de_var (pv 0)) (da_cons (de_bi c_len (by rfl) T.b_len (by decide +kernel) (da_cons (de_var (pv 2)) da_nil)) da_nil)))))))))
/-! _law_letter -/
abbrev s__law_letter : Stmt := topS 8
abbrev N__law_letter : List Str := ["_law_stock_here"]
theorem sc__law_letter : FnScope N__law_letter ["_law_stock_here"] (defScope s__law_letter) := ⟨rfl, rfl, rfl, by decide +kernel, rfl, by decide +kernel, by decide +kernel⟩
def f__law_letter : FS := (sRet (eTwo gIx (eStr "abcdefghijklmnopqrstuvwxyz") (eCall (g__law_draw) [] 2 (aCons (eVar 0) (aCons (eInt 26) aNil)))))
def g__law_letter : GA := defF 1 (f__law_letter)
theorem ok__law_letter {f : Addr} {fd : FuncData} (F : Fun K "_law_letter" "_law_letter" s__law_letter f fd) (T : Txt K mg) (C__law_draw : CalG P w K mg base 1 "_law_draw" 2 (g__law_draw)) : FnG P w K mg base CX0 2 f fd ["_law_stock_here"] (g__law_letter) :=
  fnG_of F sc__law_letter fun cdv A outer s H E hr hgd => by
    unfold f__law_letter
    exact (ds_one (ds_ret (de_ix de_str (de_callN C__law_draw (hr.mono (by decide)) (GD A hgd) (by rfl) (da_cons (de_var (pv 0)) (da_cons de_int da_nil))))))
/-! _law_many_words -/
abbrev s__law_many_words : Stmt := topS 9
abbrev N__law_many_words : List Str := ["_law_stock_here", "_law_much", "_law_place", "_law_sign", "_law_tail", "_law_way", "_law_found", "_law_at"]
theorem sc__law_many_words : FnScope N__law_many_words ["_law_stock_here", "_law_much"] (defScope s__law_many_words) := ⟨rfl, rfl, rfl, by decide +kernel, rfl, by decide +kernel, by decide +kernel⟩
def f__law_many_words : FS := (sSeq (sPar3 4 5 6 (aCons (eJoin (eStr "") (eLc (iRg1 (aCons (eCall (g__law_draw) [] 2 (aCons (eVar 0) (aCons (eInt 8) aNil))) aNil)) (gNm 7) [7] tTrue (eCall (g__law_letter) [] 1 (aCons (eVar 0) aNil)))) (aCons (eCall (g__law_draw) [] 2 (aCons (eVar 0) (aCons (eInt 2) aNil))) (aCons (eLoc aNil) aNil)))) (sSeq (sSet 2 (eCall (g__law_draw) [] 2 (aCons (eVar 0) (aCons (eTwo gAdd (eApp gLen (aCons (eVar 4) aNil)) (eInt 1)) aNil)))) (sSeq (sFor (iVal (eCut (eCall (g__law_shuffled) [] 2 (aCons (eVar 0) (aCons (eStr "abcdefghijklmnopqrstuvwxyz") aNil))) oNo (oSo (eVar 1)))) (gNm 3) (sIf (fB (eTwo gEq (eVar 5) (eInt 0))) (sExpr (eAppend (eVar 6) (eTwo gAdd (eTwo gAdd (eCut (eVar 4) oNo (oSo (eVar 2))) (eVar 3)) (eCut (eVar 4) (oSo (eVar 2)) oNo)))) (sExpr (eAppend (eVar 6) (eTwo gAdd (eVar 3) (eCut (eVar 4) oNo (oSo (eCall (g__law_draw) [] 2 (aCons (eVar 0) (aCons (eTwo gAdd (eApp gLen (aCons (eVar 4) aNil)) (eInt 1)) aNil)))))))))) (sRet (eSeal (eVar 6))))))
def g__law_many_words : GA := defF 8 (f__law_many_words)
theorem ok__law_many_words {f : Addr} {fd : FuncData} (F : Fun K "_law_many_words" "_law_many_words" s__law_many_words f fd) (T : Txt K mg) (C__law_draw : CalG P w K mg base 1 "_law_draw" 2 (g__law_draw)) (C__law_letter : CalG P w K mg base 2 "_law_letter" 1 (g__law_letter)) (C__law_shuffled : CalG P w K mg base 2 "_law_shuffled" 2 (g__law_shuffled)) : FnG P w K mg base CX0 3 f fd ["_law_stock_here", "_law_much"] (g__law_many_words) :=
  fnG_of F sc__law_many_words fun cdv A outer s H E hr hgd => by
    unfold f__law_many_words
    exact (ds_cons (ds_par3 (ps_par3 (by rfl) sc__law_many_words.nd rfl rfl rfl (by decide) (by decide) (by decide) rfl rfl rfl (da_cons (de_join de_str (de_lc rfl sc__law_many_words.nd (di_range1 (by rfl) T.b_range (da_cons (de_callN C__law_draw (hr.mono (by decide)) (GD A hgd) (by rfl) (da_cons (de_var (pv 0)) (da_cons de_int da_nil))) da_nil)) (blkOk_by (own := [("_law_at", 7)]) (N := N__law_many_words) (sc := defScope s__law_many_words) (by decide +kernel)) (by rfl) (by decide) (fun _ _ _ _ _ => (dg_name (pg_name (i := 7) sc__law_many_words.nd rfl (by first | exact Or.inl rfl | exact Or.inr rfl)))) (fun _ _ _ _ _ => dts_nil) (fun _ _ _ _ _ => (de_callN C__law_letter (hr.mono (by decide)) (GD A hgd) (by rfl) (da_cons (de_var (pv 0)) da_nil))))) (da_cons (de_callN C__law_draw (hr.mono (by decide)) (GD A hgd) (by rfl) (da_cons (de_var (pv 0)) (da_cons de_int da_nil))) (da_cons (de_loc da_nil) da_nil))) (by rfl))) (ds_cons (ds_set (ps_set (i := 2) sc__law_many_words.nd rfl (by first | exact Or.inl rfl | exact Or.inr rfl) (de_callN C__law_draw (hr.mono (by decide)) (GD A hgd) (by rfl) (da_cons (de_var (pv 0)) (da_cons (de_two o_add (de_bi c_len (by rfl) T.b_len (by decide +kernel) (da_cons (de_var (pv 4)) da_nil)) de_int) da_nil))))) (ds_cons (ds_for PassesOwn.never rfl (di_val (de_cut (de_callN C__law_shuffled (hr.mono (by decide)) (GD A hgd) (by rfl) (da_cons (de_var (pv 0)) (da_cons de_str da_nil))) do_none (do_some (de_var (pv 1))))) (dg_name (pg_name (i := 3) sc__law_many_words.nd rfl (by first | exact Or.inl rfl | exact Or.inr rfl))) (ds_one (ds_if (dt_of (o_eq hr.units) (de_var (pv 5)) de_int (nomark _)) (ds_one (ds_expr (de_append (de_var (pv 6)) (de_two o_add (de_two o_add (de_cut (de_var (pv 4)) do_none (do_some (de_var (pv 2)))) (de_var (pv 3))) (de_cut (de_var (pv 4)) (do_some (de_var (pv 2))) do_none))))) (ds_one (ds_expr (de_append (de_var (pv 6)) (de_two o_add (de_var (pv 3)) (de_cut (de_var (pv 4)) do_none (do_some (de_callN C__law_draw (hr.mono (by decide)) (GD A hgd) (by rfl) (da_cons (de_var (pv 0)) (da_cons (de_two o_add (de_bi c_len (by rfl) T.b_len (by decide +kernel) (da_cons (de_var (pv 4)) da_nil)) de_int) da_nil)))))))))))) (ds_one (ds_ret (de_seal (de_var (pv 6))))))))
/-! _law_stretches_right -/
abbrev s__law_stretches_right : Stmt := topS 10
abbrev N__law_stretches_right : List Str := ["_law_word", "_law_first", "_law_last"]
theorem sc__law_stretches_right : FnScope N__law_stretches_right ["_law_word"] (defScope s__law_stretches_right) := ⟨rfl, rfl, rfl, by decide +kernel, rfl, by decide +kernel, by decide +kernel⟩
def f__law_stretches_right : FS := (sSeq (sFor (iRg1 (aCons (eTwo gAdd (eApp gLen (aCons (eVar 0) aNil)) (eInt 1)) aNil)) (gNm 1) (sFor (iRg2 (aCons (eVar 1) (aCons (eTwo gAdd (eApp gLen (aCons (eVar 0) aNil)) (eInt 1)) aNil))) (gNm 2) (sIf (fB (eTwo gNe (eApp gRepr (aCons (eCall (g_is_word) [] 1 (aCons (eCut (eVar 0) (oSo (eVar 1)) (oSo (eVar 2))) aNil)) aNil)) (eApp gRepr (aCons (eTwo gLt' (eVar 1) (eVar 2)) aNil)))) (sRet (eBool false)) sNx))) (sRet (eAnd (eTwo (gIsB fun b => b) (eCall (g_is_word) [] 1 (aCons (eRev (eVar 0)) aNil)) (eBool true)) (eTwo (gIsB fun b => b) (eCall (g_is_word) [] 1 (aCons (eUpper (eVar 0)) aNil)) (eBool false)))))
def g__law_stretches_right : GA := defF 3 (f__law_stretches_right)
theorem ok__law_stretches_right {f : Addr} {fd : FuncData} (F : Fun K "_law_stretches_right" "_law_stretches_right" s__law_stretches_right f fd) (T : Txt K mg) (C_is_word : CalG P w K mg base 1 "is_word" 1 (g_is_word)) : FnG P w K mg base CX0 2 f fd ["_law_word"] (g__law_stretches_right) :=
  fnG_of F sc__law_stretches_right fun cdv A outer s H E hr hgd => by
    unfold f__law_stretches_right
    exact (ds_cons (ds_for PassesOwn.never rfl (di_range1 (by rfl) T.b_range (da_cons (de_two o_add (de_bi c_len (by rfl) T.b_len (by decide +kernel) (da_cons (de_var (pv 0)) da_nil)) de_int) da_nil)) (dg_name (pg_name (i := 1) sc__law_stretches_right.nd rfl (by first | exact Or.inl rfl | exact Or.inr rfl))) (ds_one (ds_for PassesOwn.never rfl (di_range2 (by rfl) T.b_range (da_cons (de_var (pv 1)) (da_cons (de_two o_add (de_bi c_len (by rfl) T.b_len (by decide +kernel) (da_cons (de_var (pv 0)) da_nil)) de_int) da_nil))) (dg_name (pg_name (i := 2) sc__law_stretches_right.nd rfl (by first | exact Or.inl rfl | exact Or.inr rfl))) (ds_one (ds_if (dt_of (o_ne hr.units) (de_bi (c_repr (GD A hgd) hr.units) (by rfl) T.b_repr (by decide +kernel) (da_cons (de_callN C_is_word (hr.mono (by decide)) (GD A hgd) (by rfl) (da_cons (de_cut (de_var (pv 0)) (do_some (de_var (pv 1))) (do_some (de_var (pv 2)))) da_nil)) da_nil)) (de_bi (c_repr (GD A hgd) hr.units) (by rfl) T.b_repr (by decide +kernel) (da_cons (de_cmp o_lt (de_var (pv 1)) (de_var (pv 2)) (nomark _)) da_nil)) (nomark _)) (ds_one (ds_ret de_bl)) ds_nil))))) (ds_one (ds_ret (de_and (de_cmp o_isB (de_callN C_is_word (hr.mono (by decide)) (GD A hgd) (by rfl) (da_cons (de_rev (de_var (pv 0))) da_nil)) de_bl (nomark _)) (de_one (de_cmp o_isB (de_callN C_is_word (hr.mono (by decide)) (GD A hgd) (by rfl) (da_cons (de_upper (de_var (pv 0))) da_nil)) de_bl (nomark _)))))))
/-! _law_signs_right -/
abbrev s__law_signs_right : Stmt := topS 11
abbrev N__law_signs_right : List Str := ["_law_word", "_law_place", "_law_letters", "_law_sign", "_law_head", "_law_text"]
theorem sc__law_signs_right : FnScope N__law_signs_right ["_law_word", "_law_place"] (defScope s__law_signs_right) := ⟨rfl, rfl, rfl, by decide +kernel, rfl, by decide +kernel, by decide +kernel⟩
def f__law_signs_right : FS := (sSeq (sSet 2 (eStr "abcdefghijklmnopqrstuvwxyz")) (sSeq (sFor (iVal (eTwo gAdd (eVar 2) (eStr " !\"#$&'()*+,-./0123456789:;<=>?@ABCDEFGHIJKLMNOPQRSTUVWXYZ[\\]^_`{|}~\n"))) (gNm 3) (sSeq (sSet 4 (eTwo gAdd (eCut (eVar 0) oNo (oSo (eVar 1))) (eVar 3))) (sFor (iVal (eLst (aCons (eTwo gAdd (eVar 4) (eCut (eVar 0) (oSo (eVar 1)) oNo)) (aCons (eTwo gAdd (eVar 4) (eCut (eVar 0) (oSo (eTwo gAdd (eVar 1) (eInt 1))) oNo)) aNil)))) (gNm 5) (sIf (fB (eTwo gNe (eApp gRepr (aCons (eCall (g_is_word) [] 1 (aCons (eVar 5) aNil)) aNil)) (eApp gRepr (aCons (eAnd (eTwo (gInS fun b => b) (eVar 3) (eVar 2)) (eTwo gLt' (eApp gLen (aCons (eVar 5) aNil)) (eInt 9))) aNil)))) (sRet (eBool false)) sNx)))) (sRet (eBool true))))
def g__law_signs_right : GA := defF 6 (f__law_signs_right)
theorem ok__law_signs_right {f : Addr} {fd : FuncData} (F : Fun K "_law_signs_right" "_law_signs_right" s__law_signs_right f fd) (T : Txt K mg) (C_is_word : CalG P w K mg base 1 "is_word" 1 (g_is_word)) : FnG P w K mg base CX0 2 f fd ["_law_word", "_law_place"] (g__law_signs_right) :=
  fnG_of F sc__law_signs_right fun cdv A outer s H E hr hgd => by
    unfold f__law_signs_right
    exact (ds_cons (ds_set (ps_set (i := 2) sc__law_signs_right.nd rfl (by first | exact Or.inl rfl | exact Or.inr rfl) de_str)) (ds_cons (ds_for PassesOwn.never rfl (di_val (de_two o_add (de_var (pv 2)) de_str)) (dg_name (pg_name (i := 3) sc__law_signs_right.nd rfl (by first | exact Or.inl rfl | exact Or.inr rfl))) (ds_cons (ds_set (ps_set (i := 4) sc__law_signs_right.nd rfl (by first | exact Or.inl rfl | exact Or.inr rfl) (de_two o_add (de_cut (de_var (pv 0)) do_none (do_some (de_var (pv 1)))) (de_var (pv 3))))) (ds_one (ds_for PassesOwn.never rfl (di_val (de_lst (da_cons (de_two o_add (de_var (pv 4)) (de_cut (de_var (pv 0)) (do_some (de_var (pv 1))) do_none)) (da_cons (de_two o_add (de_var (pv 4)) (de_cut (de_var (pv 0)) (do_some (de_two o_add (de_var (pv 1)) de_int)) do_none)) da_nil)))) (dg_name (pg_name (i := 5) sc__law_signs_right.nd rfl (by first | exact Or.inl rfl | exact Or.inr rfl))) (ds_one (ds_if (dt_of (o_ne hr.units) (de_bi (c_repr (GD A hgd) hr.units) (by rfl) T.b_repr (by decide +kernel) (da_cons (de_callN C_is_word (hr.mono (by decide)) (GD A hgd) (by rfl) (da_cons (de_var (pv 5)) da_nil)) da_nil)) (de_bi (c_repr (GD A hgd) hr.units) (by rfl) T.b_repr (by decide +kernel) (da_cons (de_and (de_cmp o_in (de_var (pv 3)) (de_var (pv 2)) (by rfl)) (de_one (de_cmp o_lt (de_bi c_len (by rfl) T.b_len (by decide +kernel) (da_cons (de_var (pv 5)) da_nil)) de_int (nomark _)))) da_nil)) (nomark _)) (ds_one (ds_ret de_bl)) ds_nil)))))) (ds_one (ds_ret de_bl))))
/-! _law_cell_right -/
abbrev s__law_cell_right : Stmt := topS 12
abbrev N__law_cell_right : List Str := ["_law_stock_here", "_law_pair", "_law_word", "_law_one", "_law_other"]
theorem sc__law_cell_right : FnScope N__law_cell_right ["_law_stock_here"] (defScope s__law_cell_right) := ⟨rfl, rfl, rfl, by decide +kernel, rfl, by decide +kernel, by decide +kernel⟩
def f__law_cell_right : FS := (sSeq (sSet 1 (eCall (g__law_many_words) [] 2 (aCons (eVar 0) (aCons (eInt 2) aNil)))) (sSeq (sPar 3 4 (aCons (eTwo gIx (eVar 1) (eInt 0)) (aCons (eCall (g__law_pick) [] 2 (aCons (eVar 0) (aCons (eVar 1) aNil))) aNil))) (sSeq (sFor (iVal (eLst (aCons (eTwo gAdd (eVar 3) (eVar 4)) (aCons (eTwo gAdd (eVar 3) (eVar 3)) (aCons (eTwo gAdd (eVar 4) (eVar 3)) (aCons (eTwo gAdd (eVar 3) (eCut (eVar 4) oNo (oSo (eTwo gSub (eInt 8) (eApp gLen (aCons (eVar 3) aNil)))))) aNil)))))) (gNm 2) (sIf (fB (eTwo gNe (eApp gRepr (aCons (eCall (g_is_word) [] 1 (aCons (eVar 2) aNil)) aNil)) (eApp gRepr (aCons (eTwo gLe' (eApp gLen (aCons (eVar 2) aNil)) (eInt 8)) aNil)))) (sRet (eBool false)) sNx)) (sSeq (sFor (iVal (eVar 1)) (gNm 2) (sIf (tOrF (tNotF (fTru (eCall (g__law_stretches_right) [] 1 (aCons (eVar 2) aNil)))) (tNotF (fTru (eCall (g__law_signs_right) [] 2 (aCons (eVar 2) (aCons (eCall (g__law_draw) [] 2 (aCons (eVar 0) (aCons (eTwo gAdd (eApp gLen (aCons (eVar 2) aNil)) (eInt 1)) aNil))) aNil)))))) (sRet (eBool false)) sNx)) (sRet (eBool true))))))
def g__law_cell_right : GA := defF 5 (f__law_cell_right)
theorem ok__law_cell_right {f : Addr} {fd : FuncData} (F : Fun K "_law_cell_right" "_law_cell_right" s__law_cell_right f fd) (T : Txt K mg) (C__law_draw : CalG P w K mg base 1 "_law_draw" 2 (g__law_draw)) (C__law_many_words : CalG P w K mg base 3 "_law_many_words" 2 (g__law_many_words)) (C__law_pick : CalG P w K mg base 2 "_law_pick" 2 (g__law_pick)) (C__law_signs_right : CalG P w K mg base 2 "_law_signs_right" 2 (g__law_signs_right)) (C__law_stretches_right : CalG P w K mg base 2 "_law_stretches_right" 1 (g__law_stretches_right)) (C_is_word : CalG P w K mg base 1 "is_word" 1 (g_is_word)) : FnG P w K mg base CX0 4 f fd ["_law_stock_here"] (g__law_cell_right) :=
  fnG_of F sc__law_cell_right fun cdv A outer s H E hr hgd => by
    unfold f__law_cell_right
    exact (ds_cons (ds_set (ps_set (i := 1) sc__law_cell_right.nd rfl (by first | exact Or.inl rfl | exact Or.inr rfl) (de_callN C__law_many_words (hr.mono (by decide)) (GD A hgd) (by rfl) (da_cons (de_var (pv 0)) (da_cons de_int da_nil))))) (ds_cons (ds_par (ps_par (by rfl) sc__law_cell_right.nd rfl rfl (by decide) rfl rfl (da_cons (de_ix (de_var (pv 1)) de_int) (da_cons (de_callN C__law_pick (hr.mono (by decide)) (GD A hgd) (by rfl) (da_cons (de_var (pv 0)) (da_cons (de_var (pv 1)) da_nil))) da_nil)) (by rfl))) (ds_cons (ds_for PassesOwn.never rfl (di_val (de_lst (da_cons (de_two o_add (de_var (pv 3)) (de_var (pv 4))) (da_cons (de_two o_add (de_var (pv 3)) (de_var (pv 3))) (da_cons (de_two o_add (de_var (pv 4)) (de_var (pv 3))) (da_cons (de_two o_add (de_var (pv 3)) (de_cut (de_var (pv 4)) do_none (do_some (de_two o_sub de_int (de_bi c_len (by rfl) T.b_len (by decide +kernel) (da_cons (de_var (pv 3)) da_nil)))))) da_nil)))))) (dg_name (pg_name (i := 2) sc__law_cell_right.nd rfl (by first | exact Or.inl rfl | exact Or.inr rfl))) (ds_one (ds_if (dt_of (o_ne hr.units) (de_bi (c_repr (GD A hgd) hr.units) (by rfl) T.b_repr (by decide +kernel) (da_cons (de_callN C_is_word (hr.mono (by decide)) (GD A hgd) (by rfl) (da_cons (de_var (pv 2)) da_nil)) da_nil)) (de_bi (c_repr (GD A hgd) hr.units) (by rfl) T.b_repr (by decide +kernel) (da_cons (de_cmp o_le (de_bi c_len (by rfl) T.b_len (by decide +kernel) (da_cons (de_var (pv 2)) da_nil)) de_int (nomark _)) da_nil)) (nomark _)) (ds_one (ds_ret de_bl)) ds_nil))) (ds_cons (ds_for PassesOwn.never rfl (di_val (de_var (pv 1))) (dg_name (pg_name (i := 2) sc__law_cell_right.nd rfl (by first | exact Or.inl rfl | exact Or.inr rfl))) (ds_one (ds_if (dt_w (dw_or (dt_not (dt_tru (de_callN C__law_stretches_right (hr.mono (by decide)) (GD A hgd) (by rfl) (da_cons (de_var (pv 2)) da_nil)))) (dw_or1 (dt_not (dt_tru (de_callN C__law_signs_right (hr.mono (by decide)) (GD A hgd) (by rfl) (da_cons (de_var (pv 2)) (da_cons (de_callN C__law_draw (hr.mono (by decide)) (GD A hgd) (by rfl) (da_cons (de_var (pv 0)) (da_cons (de_two o_add (de_bi c_len (by rfl) T.b_len (by decide +kernel) (da_cons (de_var (pv 2)) da_nil)) de_int) da_nil))) da_nil)))))))) (ds_one (ds_ret de_bl)) ds_nil))) (ds_one (ds_ret de_bl))))))
/-! law -/
abbrev s_law : Stmt := topS 13
abbrev N_law : List Str := ["_law_script", "_law_at"]
theorem sc_law : FnScope N_law ["_law_script"] (defScope s_law) := ⟨rfl, rfl, rfl, by decide +kernel, rfl, by decide +kernel, by decide +kernel⟩
def f_law : FS := (sSeq (sFor (iRg1 (aCons (eApp gMax (aCons (eInt 1) (aCons (eApp gMin (aCons (eInt 6) (aCons (eApp gLen (aCons (eVar 0) aNil)) aNil))) aNil))) aNil)) (gNm 1) (sIf (tNotF (fTru (eCall (g__law_cell_right) [] 1 (aCons (eCall (g__law_stock) [] 2 (aCons (eVar 0) (aCons (eVar 1) aNil))) aNil)))) (sRet (eBool false)) sNx)) (sRet (eBool true)))
def g_law : GA := defF 2 (f_law)
theorem ok_law {f : Addr} {fd : FuncData} (F : Fun K "law" "law" s_law f fd) (T : Txt K mg) (C__law_cell_right : CalG P w K mg base 4 "_law_cell_right" 1 (g__law_cell_right)) (C__law_stock : CalG P w K mg base 1 "_law_stock" 2 (g__law_stock)) : FnG P w K mg base CX0 5 f fd ["_law_script"] (g_law) :=
  fnG_of F sc_law fun cdv A outer s H E hr hgd => by
    unfold f_law
    exact (ds_cons (ds_for PassesOwn.never rfl (di_range1 (by rfl) T.b_range (da_cons (de_bi (c_max rfl) (by rfl) T.b_max (by decide +kernel) (da_cons de_int (da_cons (de_bi (c_min rfl) (by rfl) T.b_min (by decide +kernel) (da_cons de_int (da_cons (de_bi c_len (by rfl) T.b_len (by decide +kernel) (da_cons (de_var (pv 0)) da_nil)) da_nil))) da_nil))) da_nil)) (dg_name (pg_name (i := 1) sc_law.nd rfl (by first | exact Or.inl rfl | exact Or.inr rfl))) (ds_one (ds_if (dt_not (dt_tru (de_callN C__law_cell_right (hr.mono (by decide)) (GD A hgd) (by rfl) (da_cons (de_callN C__law_stock (hr.mono (by decide)) (GD A hgd) (by rfl) (da_cons (de_var (pv 0)) (da_cons (de_var (pv 1)) da_nil))) da_nil)))) (ds_one (ds_ret de_bl)) ds_nil))) (ds_one (ds_ret de_bl)))
end
end K02
namespace K02
open PySem PySem.Spec PyProof.Rows L2 Den
/-! ### the drawn numbers -/
def Stk (M : Mem) (n : Nat) : Prop := ∃ a b c : Int, M[n]? = some (some [.int a, .int b, .int c])
theorem Stk.lt {M : Mem} {n : Nat} (h : Stk M n) : n < M.length := by
  obtain ⟨a, b, c, h⟩ := h
  exact (List.getElem?_eq_some_iff.mp h).1
theorem Stk.set {M : Mem} {n : Nat} (h : Stk M n) (a b c : Int) : Stk (M.set n (some [.int a, .int b, .int c])) n := ⟨a, b, c, by rw [List.getElem?_set_self h.lt]⟩
/-- nothing but the n-th list has changed -/
def Kp (n : Nat) (M M' : Mem) : Prop := M'.length = M.length ∧ ∀ m, m ≠ n → M'[m]? = M[m]?
theorem Kp.refl (n : Nat) (M : Mem) : Kp n M M := ⟨rfl, fun _ _ => rfl⟩
theorem Kp.trans {n : Nat} {M M1 M2 : Mem} (h : Kp n M M1) (k : Kp n M1 M2) : Kp n M M2 := ⟨k.1.trans h.1, fun m hm => (k.2 m hm).trans (h.2 m hm)⟩
theorem Kp.set {n : Nat} {M : Mem} (x : Option (List D)) : Kp n M (M.set n x) := ⟨by simp, fun m hm => List.getElem?_set_ne (Ne.symm hm)⟩
theorem draw_ok {M : Mem} {n : Nat} {t : Int} (h : Stk M n) (h0 : 0 < t) (h1 : t.natAbs.log2 < 9000) : ∃ (r : Int) (M' : Mem), g__law_draw [.loc n, .int t] M = .ok (.int r) M' ∧ 0 ≤ r ∧ r < t ∧ Stk M' n ∧ Kp n M M' := by
  obtain ⟨a, b, c, hM⟩ := h
  have hn := (List.getElem?_eq_some_iff.mp hM).1
  by_cases ha : 0 < a
  · refine ⟨a % t, M.set n (some [.int (a / t), .int b, .int c]), ?_, Int.emod_nonneg _ (by omega), Int.emod_lt_of_pos _ h0, ⟨_, _, _, by rw [List.getElem?_set_self hn]⟩, .set _⟩
    simp [g__law_draw, f__law_draw, hM, atI, ixN, ha, mod_ok h0, div_ok (show CDivW a t from ⟨h0, h1⟩)]
  · have e1 := Int.emod_nonneg (b + 1000357 * (c + 1)) (show (2305843009213693951 : Int) ≠ 0 by decide)
    have e2 := Int.emod_lt_of_pos (b + 1000357 * (c + 1)) (show (0 : Int) < 2305843009213693951 by decide)
    let x := (b + 1000357 * (c + 1)) % 2305843009213693951
    have m1 : mulC 1000357 (c + 1) := mul_l (by decide)
    have m2 : mulC x x := mul_l (by show -(2 ^ 64) < x ∧ x < 2 ^ 64; omega)
    have m3 : mulC (x * x % 2305843009213693921) x := mul_r (by show -(2 ^ 64) < x ∧ x < 2 ^ 64; omega)
    have m4 : mulC 9029 (c + 1) := mul_l (by decide)
    have d1 : ∀ y : Int, CDivW y 16384 := fun y => ⟨by decide, by decide⟩
    refine ⟨(x * x % 2305843009213693921 * x + 9029 * (c + 1)) % 2305843009213693907 / 16384 % t, M.set n (some [.int a, .int b, .int (c + 1)]), ?_, Int.emod_nonneg _ (by omega), Int.emod_lt_of_pos _ h0, ⟨_, _, _, by rw [List.getElem?_set_self hn]⟩, .set _⟩
    have hs : ∀ z : Option (List D), (M.set n z)[n]? = some z := fun z => by rw [List.getElem?_set_self hn]
    simp only [show x = (b + 1000357 * (c + 1)) % 2305843009213693951 from rfl] at m2 m3 ⊢
    simp [g__law_draw, f__law_draw, hM, hs, atI, ixN, ha, mod_ok h0, mul_ok m1, mul_ok m2, mul_ok m3, mul_ok m4, fun y M => div_ok (M := M) (d1 y), fun y M => mod_ok (M := M) (i := y) (show (0 : Int) < 2305843009213693951 by decide), fun y M => mod_ok (M := M) (i := y) (show (0 : Int) < 2305843009213693921 by decide), fun y M => mod_ok (M := M) (i := y) (show (0 : Int) < 2305843009213693907 by decide)]
theorem grow_at {M : Mem} (x : Option (List D)) : (M ++ [x])[M.length]? = some x := by simp
theorem ten60 : ∃ p : Int, 0 < p ∧ powC p 11 ∧ ∀ M, gPow (.int 10) (.int 60) M = .ok (.int p) M := ⟨10 ^ (60 : Int).toNat, Int.pow_pos (by decide), by decide +kernel, fun M => pow_ok (by decide +kernel)⟩
theorem ten18 : ∃ r : Int, ∀ M, gPow (.int 10) (.int 18) M = .ok (.int r) M := ⟨10 ^ (18 : Int).toNat, fun M => pow_ok (by decide +kernel)⟩
section
variable {M : Mem} {ns : List Int} {k : Nat} {p q r : Int}
theorem stock_in {v : Int} (hlt : k < ns.length) (hd : atI (ns.map D.int) (k : Int) = some (.int v)) (p1 : ∀ M, gPow (.int 10) (.int 60) M = .ok (.int p) M) (p2 : ∀ M, gPow (.int p) (.int 11) M = .ok (.int q) M) (p3 : ∀ M, gPow (.int 10) (.int 18) M = .ok (.int r) M) (hq : 0 < q) :
    ∃ x y z, g__law_stock [.scr (ns.map D.int), .int k] M = .ok (.loc M.length) (M ++ [some [.int x, .int y, .int z]]) := by
  have m1 : ∀ y M, gMul (.int y) (.int 78713) M = .ok (.int (y * 78713)) M := fun y M => mul_ok (mul_r (by decide))
  obtain ⟨u2, m2⟩ : ∃ u, ∀ M, gMul (.int 6007) (.int k) M = .ok (.int u) M := ⟨_, fun M => mul_ok (mul_l (by decide))⟩
  have m3 : ∀ y M, gMul (.int 29) (.int y) M = .ok (.int (29 * y)) M := fun y M => mul_ok (mul_l (by decide))
  have q0 : ∀ y M, gMod (.int y) (.int q) M = .ok (.int (y % q)) M := fun y M => mod_ok hq
  have q1 : ∀ y M, gMod (.int y) (.int 2147483423) M = .ok (.int (y % 2147483423)) M := fun y M => mod_ok (by decide)
  have q2 : ∀ y M, gMod (.int y) (.int 2305843009213693907) M = .ok (.int (y % 2305843009213693907)) M := fun y M => mod_ok (by decide)
  simp [g__law_stock, f__law_stock, hlt, hd, p1, p2, p3, m1, m2, m3, q0, q1, q2, line1k]
theorem stock_out (hlt : ¬ k < ns.length) (p1 : ∀ M, gPow (.int 10) (.int 60) M = .ok (.int p) M) (p2 : ∀ M, gPow (.int p) (.int 11) M = .ok (.int q) M) (p3 : ∀ M, gPow (.int 10) (.int 18) M = .ok (.int r) M) (hq : 0 < q) :
    ∃ x y z, g__law_stock [.scr (ns.map D.int), .int k] M = .ok (.loc M.length) (M ++ [some [.int x, .int y, .int z]]) := by
  obtain ⟨u, m0⟩ : ∃ u, ∀ M, gMul (.int 43) (.int k) M = .ok (.int u) M := ⟨_, fun M => mul_ok (mul_l (by decide))⟩
  have m1 : ∀ y M, gMul (.int y) (.int 78713) M = .ok (.int (y * 78713)) M := fun y M => mul_ok (mul_r (by decide))
  obtain ⟨u2, m2⟩ : ∃ u, ∀ M, gMul (.int 6007) (.int k) M = .ok (.int u) M := ⟨_, fun M => mul_ok (mul_l (by decide))⟩
  have m3 : ∀ y M, gMul (.int 29) (.int y) M = .ok (.int (29 * y)) M := fun y M => mul_ok (mul_l (by decide))
  have q0 : ∀ y M, gMod (.int y) (.int q) M = .ok (.int (y % q)) M := fun y M => mod_ok hq
  have q1 : ∀ y M, gMod (.int y) (.int 2147483423) M = .ok (.int (y % 2147483423)) M := fun y M => mod_ok (by decide)
  have q2 : ∀ y M, gMod (.int y) (.int 2305843009213693907) M = .ok (.int (y % 2305843009213693907)) M := fun y M => mod_ok (by decide)
  simp [g__law_stock, f__law_stock, hlt, p1, p2, p3, m0, m1, m2, m3, q0, q1, q2, line1k]
end
theorem stock_ok {M : Mem} {ns : List Int} {k : Nat} : ∃ M', g__law_stock [.scr (ns.map D.int), .int k] M = .ok (.loc M.length) M' ∧ Stk M' M.length := by
  obtain ⟨p, hp0, hp, p1⟩ := ten60
  obtain ⟨q, hq, p2⟩ : ∃ q : Int, 0 < q ∧ ∀ M, gPow (.int p) (.int 11) M = .ok (.int q) M := ⟨p ^ (11 : Int).toNat, Int.pow_pos hp0, fun M => pow_ok hp⟩
  obtain ⟨r, p3⟩ := ten18
  by_cases hlt : k < ns.length
  · obtain ⟨x, y, z, e⟩ := stock_in (M := M) hlt (atI_nat (v := D.int (ns[k]'hlt)) (by simp [hlt])) p1 p2 p3 hq
    exact ⟨_, e, _, _, _, grow_at _⟩
  · obtain ⟨x, y, z, e⟩ := stock_out (M := M) hlt p1 p2 p3 hq
    exact ⟨_, e, _, _, _, grow_at _⟩
theorem alpha_at : ∀ r : Nat, r < 26 → atI (Str.ofString "abcdefghijklmnopqrstuvwxyz").cps.toList (r : Int) = some (97 + r) := by decide +kernel
theorem alpha_len : (Str.ofString "abcdefghijklmnopqrstuvwxyz").length = 26 := by decide +kernel
theorem letter_ok {M : Mem} {n : Nat} (h : Stk M n) : ∃ (c : Nat) (M' : Mem), g__law_letter [.loc n] M = .ok (.str ⟨#[c]⟩) M' ∧ 97 ≤ c ∧ c ≤ 122 ∧ Stk M' n ∧ Kp n M M' := by
  obtain ⟨r, M', e, h0, h1, h2, h3⟩ := draw_ok h (t := 26) (by decide) (by decide)
  have ha := alpha_at r.toNat (by omega)
  rw [Int.toNat_of_nonneg h0] at ha
  refine ⟨97 + r.toNat, M', ?_, by omega, by omega, h2, h3⟩
  simp [g__law_letter, f__law_letter, e, ha, alpha_len, line1k]
theorem pick_ok {M : Mem} {n : Nat} {xs : List D} (h : Stk M n) (h0 : 0 < xs.length) (h1 : xs.length < 1000000) : ∃ (d : D) (M' : Mem), g__law_pick [.loc n, .lst xs] M = .ok d M' ∧ d ∈ xs ∧ Stk M' n ∧ Kp n M M' := by
  obtain ⟨r, M', e, r0, r1, h2, h3⟩ := draw_ok h (t := (xs.length : Int)) (by omega) (by
    have : (xs.length : Int).natAbs = xs.length := rfl
    rw [this]
    have := (Nat.log2_lt (by omega)).mpr (Nat.lt_trans h1 (show 1000000 < 2 ^ 20 by decide))
    omega)
  have hn : (r.toNat : Int) = r := Int.toNat_of_nonneg r0
  have hx : xs[r.toNat]? = some (xs[r.toNat]'(by omega)) := by simp
  have ha := atI_nat hx
  rw [hn] at ha
  refine ⟨_, M', ?_, List.getElem_mem (l := xs) (n := r.toNat) (by omega), h2, h3⟩
  simp [g__law_pick, f__law_pick, e, ha]
end K02
namespace K02
open PySem PySem.Spec PyProof.Rows L2 Den
theorem repr_bl (b : Bool) (M : Mem) : gRepr [.bl b] M = .ok (.str (PyData.shown (.bool b))) M := by
  have h : reprOk (.bool b) = true := by cases b <;> decide +kernel
  simp [toPy, h]
theorem alpha_in {c : Nat} : (c ∈ cs (Str.ofString "abcdefghijklmnopqrstuvwxyz")) ↔ 97 ≤ c ∧ c ≤ 122 := by
  have e : cs (Str.ofString "abcdefghijklmnopqrstuvwxyz") = (List.range 26).map (97 + ·) := by decide +kernel
  rw [e]
  simp only [List.mem_map, List.mem_range]
  constructor
  · rintro ⟨k, hk, rfl⟩; omega
  · rintro ⟨h1, h2⟩; exact ⟨c - 97, by omega, by omega⟩
def okc (c : Nat) : Bool := decide (97 ≤ c ∧ c ≤ 122)
theorem lt_one (a b : Nat) : decide ([a] < [b]) = decide (a < b) := by
  rw [decide_eq_decide]
  constructor
  · intro h
    cases h with
    | rel h => exact h
    | cons h => cases h
  · exact fun h => List.Lex.rel h
def vW : D → D
  | .str s => .bl ((cs s).all okc)
  | d => d
theorem bls_vw : ∀ l : List Nat, bls? ((l.map fun c => D.str ⟨#[c]⟩).map vW) = some (l.map okc)
  | [] => rfl
  | c :: l => by
    have ih := bls_vw l
    simp only [List.map_cons, vW]
    unfold bls?
    rw [ih]
    simp [cs]
theorem str_a : Str.ofString "a" = ⟨#[97]⟩ := by decide +kernel
theorem str_z : Str.ofString "z" = ⟨#[122]⟩ := by decide +kernel
theorem le_one (a b : Nat) (M : Mem) : gLe' (.str ⟨#[a]⟩) (.str ⟨#[b]⟩) M = .ok (.bl (decide (a ≤ b))) M := by
  show Out.ok (D.bl (!decide ([b] < [a]))) M = _
  rw [lt_one, show (!decide (b < a)) = decide (a ≤ b) from by by_cases h : b < a <;> simp [h] <;> omega]
theorem le_int (i j : Int) (M : Mem) : gLe' (.int i) (.int j) M = .ok (.bl (decide (i ≤ j))) M := rfl
/-- whether a text is a word -/
def isW (z : Str) : Bool := decide (1 ≤ z.length ∧ z.length ≤ 8) && (cs z).all okc
theorem is_word_ok {z : Str} (h : z.length ≤ 10000) (M : Mem) : g_is_word [.str z] M = .ok (.bl (isW z)) M := by
  have zl : z.length ≤ lineD := line1k h
  have hlen : (Den.signs z).length = z.length := by simp [Den.signs, Str.length]
  by_cases hz : 1 ≤ z.length ∧ z.length ≤ 8
  · obtain ⟨h1, h8⟩ := id hz
    have hs : (Den.signs z).length ≤ lineD := by rw [hlen]; exact zl
    have c1 : ∀ M, lcD (gNm 1) tTrue (eChain gLe' gLe' (eStr "a") (eVar 1) (eStr "z")) [some (.str z), none] (Den.signs z) M = .ok ((Den.signs z).map vW) M := fun M => by
      have := lcD_pure (g := gNm 1) (t := tTrue) (f := eChain gLe' gLe' (eStr "a") (eVar 1) (eStr "z")) (ρ := [some (.str z), none]) (M := M) (fun _ => true) vW (xs := Den.signs z) (by
        intro d hd
        unfold Den.signs at hd
        obtain ⟨c, _, rfl⟩ := List.mem_map.mp hd
        refine ⟨_, rfl, rfl, fun _ => ?_⟩
        simp only [eChain, eVar, Out.bind_ok, List.set_cons_succ, List.set_cons_zero, List.getElem?_cons_succ, List.getElem?_cons_zero, str_a, str_z, le_one, asB]
        by_cases h1 : 97 ≤ c
        · simp only [h1, decide_true, if_pos, le_one, vW, cs, okc, List.all_cons, List.all_nil, Bool.and_true, true_and]
        · simp only [h1, decide_false, Bool.false_eq_true, if_false, vW, cs, okc, List.all_cons, List.all_nil, Bool.and_true, false_and])
      rwa [List.filter_eq_self.mpr fun _ _ => rfl] at this
    have b := bls_vw (cs z)
    have k1 : (1 : Int) ≤ z.length := by omega
    have k8 : (z.length : Int) ≤ 8 := by omega
    have ws : wipeD [some (D.str z), none] [1] = [some (D.str z), none] := rfl
    have b' : bls? ((Den.signs z).map vW) = some ((cs z).map okc) := b
    have e : isW z = (cs z).all okc := by unfold isW; rw [decide_eq_true hz]; rfl
    rw [e]
    simp [g_is_word, f_is_word, tyS, isiB, zl, k1, k8, hs, ws, c1, gAll, b', line1k, -gLe'_ap, le_int]
  · have e : isW z = false := by unfold isW; rw [decide_eq_false hz]; rfl
    rw [e]
    by_cases h1 : (1 : Int) ≤ z.length
    · have h8 : ¬ (z.length : Int) ≤ 8 := by omega
      simp [g_is_word, f_is_word, tyS, isiB, zl, h1, h8, -gLe'_ap, le_int]
    · simp [g_is_word, f_is_word, tyS, isiB, zl, h1, -gLe'_ap, le_int]
/-! ### texts of letters -/
def Low (n : Nat) (z : Str) : Prop := (cs z).length ≤ n ∧ ∀ c ∈ cs z, 97 ≤ c ∧ c ≤ 122
theorem Low.len {n : Nat} {z : Str} (h : Low n z) (hn : n ≤ 10000) : z.length ≤ lineD := line1k (by rw [cs_len]; exact Nat.le_trans h.1 hn)
theorem Low.app {n m : Nat} {y z : Str} (h : Low n y) (k : Low m z) : Low (n + m) (y ++ z) := by
  refine ⟨by rw [cs_app, List.length_append]; have := h.1; have := k.1; omega, fun c hc => ?_⟩
  rw [cs_app] at hc
  exact (List.mem_append.mp hc).elim (h.2 c) (k.2 c)
theorem Low.cut {n : Nat} {z : Str} (h : Low n z) (lo hi : Option Int) : Low n (cutS z lo hi) := by
  refine ⟨by rw [cs_cut]; exact Nat.le_trans (cut_len _ _ _) h.1, fun c hc => ?_⟩
  rw [cs_cut] at hc
  exact h.2 c (cut_mem hc)
theorem Low.mono {n m : Nat} {z : Str} (h : Low n z) (k : n ≤ m) : Low m z := ⟨Nat.le_trans h.1 k, h.2⟩
theorem Low.app_ok {n m : Nat} {y z : Str} (h : Low n y) (k : Low m z) (hz : n + m ≤ 10000) : y.length + z.length ≤ lineD := line1k (by rw [cs_len, cs_len]; have := h.1; have := k.1; omega)
theorem Low.all {n : Nat} {z : Str} (h : Low n z) : (cs z).all okc = true := by
  rw [List.all_eq_true]
  intro c hc
  exact decide_eq_true (h.2 c hc)
theorem Low.isW {n : Nat} {z : Str} (h : Low n z) : isW z = decide (1 ≤ z.length ∧ z.length ≤ 8) := by unfold K02.isW; rw [h.all, Bool.and_true]
/-- one letter -/
def Let (d : D) : Prop := ∃ c : Nat, d = .str ⟨#[c]⟩ ∧ 97 ≤ c ∧ c ≤ 122
theorem Let.low {c : Nat} (h : 97 ≤ c ∧ c ≤ 122) : Low 1 ⟨#[c]⟩ := ⟨by simp [cs], fun x hx => by simp [cs] at hx; rw [hx]; exact h⟩
theorem strs_let : ∀ {ds : List D}, (∀ d ∈ ds, Let d) → ∃ zs, Den.strs? ds = some zs ∧ ds = zs.map D.str ∧ ∀ z ∈ zs, Low 1 z
  | [], _ => ⟨[], rfl, rfl, fun _ h => (nomatch h)⟩
  | d :: ds, h => by
    obtain ⟨c, rfl, hz⟩ := h d List.mem_cons_self
    obtain ⟨zs, e, rfl, hf⟩ := strs_let fun d hd => h d (List.mem_cons_of_mem _ hd)
    refine ⟨⟨#[c]⟩ :: zs, by unfold Den.strs?; rw [e]; rfl, rfl, fun y hy => ?_⟩
    rcases List.mem_cons.mp hy with q | q
    · rw [q]; exact Let.low hz
    · exact hf y q
theorem flat_low {n : Nat} : ∀ {zs : List Str}, (∀ z ∈ zs, Low n z) → ((zs.map cs).flatten.length ≤ zs.length * n) ∧ ∀ c ∈ (zs.map cs).flatten, 97 ≤ c ∧ c ≤ 122
  | [], _ => ⟨by simp, by simp⟩
  | z :: zs, h => by
    have ih := flat_low (n := n) (zs := zs) fun y hy => h y (List.mem_cons_of_mem _ hy)
    have hz := h z List.mem_cons_self
    refine ⟨?_, fun c hc => ?_⟩
    · rw [List.map_cons, List.flatten_cons, List.length_append, List.length_cons, Nat.succ_mul]
      have := hz.1
      omega
    · rw [List.map_cons, List.flatten_cons] at hc
      exact (List.mem_append.mp hc).elim (hz.2 c) (ih.2 c)
theorem sum_low {n : Nat} : ∀ {zs : List Str}, (∀ z ∈ zs, Low n z) → (zs.map (·.length)).sum ≤ zs.length * n
  | [], _ => by simp
  | z :: zs, h => by
    have ih := sum_low (n := n) (zs := zs) fun y hy => h y (List.mem_cons_of_mem _ hy)
    have hz := (h z List.mem_cons_self).1
    rw [List.map_cons, List.sum_cons, List.length_cons, Nat.succ_mul, cs_len]
    omega
/-- a comprehension without a test, its turns counted -/
theorem lcD_all {g : TgD} {f : FE} {ρ : Ro} (I : Nat → Mem → Prop) (P : D → Prop) : ∀ {xs : List D} {M : Mem} (k : Nat), (∀ d ∈ xs, ∀ i M, i < k + xs.length → I i M → ∃ ρ1 y M2, g d ρ = some ρ1 ∧ f ρ1 M = .ok y M2 ∧ P y ∧ I (i + 1) M2) → I k M →
    ∃ ys M', lcD g tTrue f ρ xs M = .ok ys M' ∧ (∀ y ∈ ys, P y) ∧ ys.length = xs.length ∧ I (k + xs.length) M'
  | [], M, k, _, h0 => ⟨[], M, rfl, fun _ h => (nomatch h), rfl, h0⟩
  | d :: ds, M, k, h, h0 => by
    obtain ⟨ρ1, y, M2, e1, e2, p2, h2⟩ := h d List.mem_cons_self k M (by simp) h0
    obtain ⟨ys, M', e3, p3, l3, i3⟩ := lcD_all (g := g) (f := f) (ρ := ρ) I P (xs := ds) (M := M2) (k + 1) (fun d hd i M hi => h d (List.mem_cons_of_mem _ hd) i M (by simp only [List.length_cons]; omega)) h2
    refine ⟨y :: ys, M', ?_, fun z hz => ?_, by rw [List.length_cons, List.length_cons, l3], by rw [List.length_cons, show k + (ds.length + 1) = k + 1 + ds.length by omega]; exact i3⟩
    · unfold lcD
      rw [e1]
      dsimp only [tTrue]
      simp only [Out.noX, Out.bind_ok, if_pos]
      rw [e2]
      simp only [Out.noX, Out.bind_ok]
      rw [e3]
      rfl
    · rcases List.mem_cons.mp hz with q | q
      · rw [q]; exact p2
      · exact p3 z q
end K02
namespace K02
open PySem PySem.Spec PyProof.Rows L2 Den
/-- a text of drawn letters -/
theorem tail_ok {M : Mem} {n : Nat} (h : Stk M n) (ρ : Ro) (h0 : ρ[0]? = some (some (.loc n))) : ∃ (z : Str) (M' : Mem),
    (eJoin (eStr "") (eLc (iRg1 (aCons (eCall (g__law_draw) [] 2 (aCons (eVar 0) (aCons (eInt 8) aNil))) aNil)) (gNm 7) [7] tTrue (eCall (g__law_letter) [] 1 (aCons (eVar 0) aNil)))) ρ M = .ok (.str z) M' ∧ Low 7 z ∧ Stk M' n ∧ Kp n M M' := by
  obtain ⟨r, M1, e1, r0, r1, s1, k1⟩ := draw_ok h (t := 8) (by decide) (by decide)
  have hrg : (rangeD 0 r).length = r.toNat := by rw [rangeD_len]; congr 1; omega
  have hw : (wipeD ρ [7])[0]? = some (some (.loc n)) := by show (ρ.set 7 none)[0]? = _; rw [List.getElem?_set_ne (by decide)]; exact h0
  obtain ⟨ys, M2, e2, p2, l2, s2, k2⟩ := lcD_all (g := gNm 7) (f := eCall g__law_letter [] 1 (aCons (eVar 0) aNil)) (ρ := wipeD ρ [7]) (fun _ M' => Stk M' n ∧ Kp n M M') Let (xs := rangeD 0 r) (M := M1) 0 (by
    rintro d hd i M2 hi ⟨hM, hk⟩
    obtain ⟨c, M', e, c0, c1, s', k'⟩ := letter_ok hM
    refine ⟨_, .str ⟨#[c]⟩, M', rfl, ?_, ⟨c, rfl, c0, c1⟩, s', hk.trans k'⟩
    simp [gNm, List.getElem?_set_ne, hw, e]) ⟨s1, k1⟩
  obtain ⟨zs, e3, e4, hf⟩ := strs_let p2
  have hl : zs.length ≤ 7 := by rw [e4, List.length_map] at l2; omega
  have he : cs (Str.ofString "") = [] := by decide +kernel
  have e0 : (Str.ofString "").length = 0 := by decide +kernel
  have f1 := flat_low hf
  have f2 := sum_low hf
  refine ⟨Txt.join (Str.ofString "") zs, M2, ?_, ⟨by rw [cs_join he]; omega, by rw [cs_join he]; exact f1.2⟩, s2, k2⟩
  have c1 : r.toNat ≤ lineD := line1k (by omega)
  have c2 : (zs.map (·.length)).sum ≤ lineD := line1k (by omega)
  have b0 : -1000000000 ≤ r := by omega
  have b1 : r ≤ 1000000000 := by omega
  simp [h0, e1, b0, b1, hrg, c1, e2, e3, e0, c2]
def alpha : Str := Str.ofString "abcdefghijklmnopqrstuvwxyz"
theorem alpha_let : ∀ d ∈ Den.signs alpha, Let d := by
  intro d hd
  unfold Den.signs at hd
  obtain ⟨c, hc, rfl⟩ := List.mem_map.mp hd
  exact ⟨c, rfl, alpha_in.mp hc⟩
theorem al_len : alpha.length = 26 := by decide +kernel
theorem alpha_signs : (Den.signs alpha).length = 26 := by decide +kernel
theorem log26 {k : Nat} (h : k ≤ 26) : (k : Int).natAbs.log2 < 9000 := by
  have e : (k : Int).natAbs = k := rfl
  rw [e]
  rcases Nat.eq_zero_or_pos k with q | q
  · rw [q]; decide
  · have := (Nat.log2_lt (n := k) (k := 5) (by omega)).mpr (by omega)
    omega
/-- the letters in a drawn order -/
theorem shuffled_ok {M : Mem} {n : Nat} (h : Stk M n) : ∃ (ys : List D) (M' : Mem), g__law_shuffled [.loc n, .str alpha] M = .ok (.lst ys) M' ∧ (∀ y ∈ ys, Let y) ∧ ys.length = 26 ∧ Stk M' n ∧ M'.length = M.length + 1 ∧ ∀ m, m ≠ n → m < M.length → M'[m]? = M[m]? := by
  have hn := h.lt
  have ne : M.length ≠ n := by omega
  have s0 : Stk (M ++ [some (Den.signs alpha)]) n := by
    obtain ⟨a, b, c, e⟩ := h
    exact ⟨a, b, c, by rw [List.getElem?_append_left hn]; exact e⟩
  have hrg : (rangeD 0 26).length = 26 := rfl
  obtain ⟨ys, M2, e2, p2, l2, s2, q2, k2, o2⟩ := lcD_all (g := gNm 3) (f := ePop (eVar 2) (eCall (g__law_draw) [] 2 (aCons (eVar 0) (aCons (eApp gLen (aCons (eVar 2) aNil)) aNil)))) (ρ := [some (.loc n), some (.str alpha), some (.loc M.length), none])
    (fun i M' => Stk M' n ∧ (∃ ls, M'[M.length]? = some (some ls) ∧ ls.length = 26 - i ∧ ∀ d ∈ ls, Let d) ∧ M'.length = M.length + 1 ∧ ∀ m, m ≠ n → m < M.length → M'[m]? = M[m]?) Let (xs := rangeD 0 26) (M := M ++ [some (Den.signs alpha)]) 0 (by
    rintro d hd i M1 hi ⟨hs, ⟨ls, hM, hl, ha⟩, hk, ho⟩
    rw [hrg] at hi
    obtain ⟨r, M3, e3, r0, r1, s3, k3⟩ := draw_ok hs (t := (ls.length : Int)) (by omega) (log26 (by omega))
    have hM3 : M3[M.length]? = some (some ls) := by rw [k3.2 _ ne]; exact hM
    have hr : r.toNat < ls.length := by omega
    have hx : ixN ls.length r = some r.toNat := by unfold ixN; rw [if_pos r0, if_pos r1]
    have hg : ls[r.toNat]? = some (ls[r.toNat]'hr) := by simp [hr]
    have hlt3 : M.length < M3.length := (List.getElem?_eq_some_iff.mp hM3).1
    refine ⟨_, ls[r.toNat]'hr, M3.set M.length (some (ls.eraseIdx r.toNat)), rfl, ?_, ha _ (List.getElem_mem hr), ?_, ⟨ls.eraseIdx r.toNat, by rw [List.getElem?_set_self hlt3], by rw [List.length_eraseIdx_of_lt hr]; omega, fun d hd => ha d (List.mem_of_mem_eraseIdx hd)⟩, by rw [List.length_set, k3.1]; exact hk, fun m hm hlt => ?_⟩
    · have b0 : -1000000 ≤ r := by omega
      have b1 : r ≤ 1000000 := by omega
      simp [hM, e3, hM3, b0, b1, hx, hg]
    · obtain ⟨a, b, c, e⟩ := s3
      exact ⟨a, b, c, by rw [List.getElem?_set_ne ne]; exact e⟩
    · rw [List.getElem?_set_ne (by omega), k3.2 m hm]
      exact ho m hm hlt) ⟨s0, ⟨_, grow_at _, alpha_signs, alpha_let⟩, by simp, fun m hm hlt => by rw [List.getElem?_append_left hlt]⟩
  refine ⟨ys, M2, ?_, p2, by rw [l2, hrg], s2, k2, o2⟩
  have ws : wipeD [some (D.loc n), some (.str alpha), some (.loc M.length), none] [3] = [some (D.loc n), some (.str alpha), some (.loc M.length), none] := rfl
  simp [g__law_shuffled, f__law_shuffled, al_len, hrg, line1k, ws, e2]
end K02
namespace K02
open PySem PySem.Spec PyProof.Rows L2 Den
/-- a word -/
def Word (d : D) : Prop := ∃ z, d = .str z ∧ Low 8 z ∧ 1 ≤ z.length
theorem log9 {z : Str} (h : Low 8 z) : ((z.length : Int) + 1).natAbs.log2 < 9000 := by
  have e : ((z.length : Int) + 1).natAbs = z.length + 1 := by omega
  rw [e]
  have h8 := h.1
  rw [← cs_len] at h8
  have := (Nat.log2_lt (n := z.length + 1) (k := 4) (by omega)).mpr (by omega)
  omega
theorem app_len (a b : Str) : (a ++ b).length = a.length + b.length := by rw [cs_len, cs_len, cs_len, cs_app, List.length_append]
theorem one_len (c : Nat) : (⟨#[c]⟩ : Str).length = 1 := by simp [Str.length]
theorem cutD_split {α : Type} (xs : List α) {p : Int} (h0 : 0 ≤ p) : (cutD xs none (some p)).length + (cutD xs (some p) none).length = xs.length := by
  unfold Den.cutD
  simp only [HT.sIx]
  simp
  omega
abbrev wBody : FS := (sIf (fB (eTwo gEq (eVar 5) (eInt 0))) (sExpr (eAppend (eVar 6) (eTwo gAdd (eTwo gAdd (eCut (eVar 4) oNo (oSo (eVar 2))) (eVar 3)) (eCut (eVar 4) (oSo (eVar 2)) oNo)))) (sExpr (eAppend (eVar 6) (eTwo gAdd (eVar 3) (eCut (eVar 4) oNo (oSo (eCall (g__law_draw) [] 2 (aCons (eVar 0) (aCons (eTwo gAdd (eApp gLen (aCons (eVar 4) aNil)) (eInt 1)) aNil)))))))))
theorem turn_ok {n f : Nat} {M : Mem} {p w : Int} {z : Str} {ws : List D} {d : D} (hs : Stk M n) (hf : M[f]? = some (some ws)) (nf : f ≠ n) (hw : ∀ x ∈ ws, Word x) (hl : ws.length ≤ 2) (hz : Low 7 z) (hp : 0 ≤ p) (hd : Let d) (x : Option D) :
    ∃ M' y, wBody [some (.loc n), some (.int 2), some (.int p), some d, some (.str z), some (.int w), some (.loc f), x] M = .ok (.nx [some (.loc n), some (.int 2), some (.int p), some d, some (.str z), some (.int w), some (.loc f), x]) M' ∧ Stk M' n ∧ M'[f]? = some (some (ws ++ [y])) ∧ Word y := by
  obtain ⟨c, rfl, hc⟩ := hd
  have lc := Let.low hc
  have zl := hz.len (by decide)
  have hlt := (List.getElem?_eq_some_iff.mp hf).1
  have stk : ∀ {M' : Mem} (v : Option (List D)), Stk M' n → Stk (M'.set f v) n := fun v ⟨a, b, c, e⟩ => ⟨a, b, c, by rw [List.getElem?_set_ne nf]; exact e⟩
  have n1 : ws.length + 1 ≤ lineD := line1k (by omega)
  by_cases h0 : w = 0
  · have c1 := hz.cut none (some p)
    have c2 := hz.cut (some p) none
    have a1 := c1.app lc
    have k1 := c1.app_ok lc (by decide)
    have k2 := a1.app_ok c2 (by decide)
    have hsp := cutD_split (cs z) hp
    have l8 : Low 8 (cutS z none (some p) ++ ⟨#[c]⟩ ++ cutS z (some p) none) := by
      refine ⟨?_, (a1.app c2).2⟩
      rw [cs_app, cs_app, List.length_append, List.length_append, cs_cut, cs_cut]
      have := hz.1
      have e1 : (cs (⟨#[c]⟩ : Str)).length = 1 := by simp [cs]
      omega
    refine ⟨M.set f (some (ws ++ [.str (cutS z none (some p) ++ ⟨#[c]⟩ ++ cutS z (some p) none)])), .str (cutS z none (some p) ++ ⟨#[c]⟩ ++ cutS z (some p) none), ?_, stk _ hs, by rw [List.getElem?_set_self hlt], ⟨_, rfl, l8, by rw [app_len, app_len, one_len]; omega⟩⟩
    simp [wBody, h0, hf, zl, k1, k2, n1]
  · obtain ⟨r, M1, e1, r0, r1, s1, kp⟩ := draw_ok hs (t := (z.length : Int) + 1) (by omega) (log9 (hz.mono (by decide)))
    have c1 := hz.cut none (some r)
    have k1 := lc.app_ok c1 (by decide)
    have hf1 : M1[f]? = some (some ws) := by rw [kp.2 f nf]; exact hf
    have hlt1 := (List.getElem?_eq_some_iff.mp hf1).1
    refine ⟨M1.set f (some (ws ++ [.str (⟨#[c]⟩ ++ cutS z none (some r))])), .str (⟨#[c]⟩ ++ cutS z none (some r)), ?_, stk _ s1, by rw [List.getElem?_set_self hlt1], ⟨_, rfl, lc.app c1, by rw [app_len, one_len]; omega⟩⟩
    simp [wBody, h0, hf, hf1, zl, e1, k1, n1]
/-- two words -/
theorem many_ok {M : Mem} {n : Nat} (h : Stk M n) : ∃ (a b : D) (M' : Mem), g__law_many_words [.loc n, .int 2] M = .ok (.lst [a, b]) M' ∧ Word a ∧ Word b ∧ Stk M' n := by
  obtain ⟨z, M1, e1, lz, s1, k1⟩ := tail_ok h [some (.loc n), some (.int 2), none, none, none, none, none, none] rfl
  obtain ⟨w, M2, e2, w0, w1, s2, k2⟩ := draw_ok s1 (t := 2) (by decide) (by decide)
  have lt2 := s2.lt
  have s3 : Stk (M2 ++ [some []]) n := by
    obtain ⟨a, b, c, e⟩ := s2
    exact ⟨a, b, c, by rw [List.getElem?_append_left lt2]; exact e⟩
  have nf : M2.length ≠ n := by omega
  obtain ⟨p, M3, e3, p0, p1, s4, k4⟩ := draw_ok s3 (t := (z.length : Int) + 1) (by omega) (log9 (lz.mono (by decide)))
  have f3 : M3[M2.length]? = some (some []) := by rw [k4.2 _ nf]; exact grow_at _
  obtain ⟨ys, M4, e4, ly, ll, s5, k5, o5⟩ := shuffled_ok s4
  have hlt3 := (List.getElem?_eq_some_iff.mp f3).1
  have f4 : M4[M2.length]? = some (some []) := by rw [o5 _ nf hlt3]; exact f3
  match ys, ly, ll, e4 with
  | y1 :: y2 :: rest, ly, ll, e4 =>
    obtain ⟨M5, v1, g1, t1, f5, wv1⟩ := turn_ok (p := p) (w := w) s5 f4 nf (fun _ h => (nomatch h)) (by simp) lz p0 (ly y1 (by simp)) none
    obtain ⟨M6, v2, g2, t2, f6, wv2⟩ := turn_ok (p := p) (w := w) t1 f5 nf (fun x hx => by simp at hx; rw [hx]; exact wv1) (by simp) lz p0 (ly y2 (by simp)) none
    have hc : cutD (y1 :: y2 :: rest) none (some 2) = [y1, y2] := by
      have h26 : rest.length = 24 := by simpa using ll
      unfold Den.cutD
      simp [HT.sIx, h26]
    refine ⟨v1, v2, M6.set M2.length none, ?_, wv1, wv2, ?_⟩
    · have q1 : loopD (gNm 3) wBody [y1, y2] [some (.loc n), some (.int 2), some (.int p), none, some (.str z), some (.int w), some (.loc M2.length), none] M4 = .ok (.nx [some (.loc n), some (.int 2), some (.int p), some y2, some (.str z), some (.int w), some (.loc M2.length), none]) M6 := by
        simp only [loopD, gNm, List.set_cons_succ, List.set_cons_zero, g1, g2, Out.bind_ok]
      have lt6 : (y1 :: y2 :: rest).length ≤ lineD := line1k (by omega)
      simp only [alpha] at e4
      simp only [List.nil_append, List.cons_append] at f6
      simp [g__law_many_words, f__law_many_words, e1, e2, e3, e4, itD, hc, q1, f6, lz.len (by decide), line1k, -eJoin, -eLc, -sIf]
    · obtain ⟨a, b, c, e⟩ := t2
      exact ⟨a, b, c, by rw [List.getElem?_set_ne nf]; exact e⟩
end K02
namespace K02
open PySem PySem.Spec PyProof.Rows L2 Den
theorem cutS_len2 (z : Str) {i j : Int} (h0 : 0 ≤ i) (h1 : i ≤ j) (h2 : j ≤ z.length) : (cutS z (some i) (some j)).length = (j - i).toNat := by
  rw [cs_len, cs_cut]
  rw [cs_len] at h2
  unfold Den.cutD
  simp only [HT.sIx]
  rw [if_neg (by omega), if_neg (by omega), List.length_take, List.length_drop]
  omega
theorem back_len (z : Str) : (backS z).length = z.length := by
  show z.cps.toList.reverse.toArray.size = z.cps.size
  simp
theorem back_low {n : Nat} {z : Str} (h : Low n z) : Low n (backS z) := by
  have e : cs (backS z) = (cs z).reverse := by simp [cs, backS]
  refine ⟨by rw [e, List.length_reverse]; exact h.1, fun c hc => ?_⟩
  rw [e, List.mem_reverse] at hc
  exact h.2 c hc
theorem up_len : ∀ l : List Nat, (∀ c ∈ l, c < 128) → (Txt.upper ⟨l.toArray⟩).length = l.length
  | [], _ => by decide +kernel
  | c :: l, h => by
    have e : (⟨(c :: l).toArray⟩ : Str) = ⟨#[c]⟩ ++ ⟨l.toArray⟩ := PySem.Str.ext' (by
      show (c :: l).toArray = (#[c] ++ l.toArray)
      simp)
    rw [e, PySem.W.KOpn.upper_app, app_len, up_len l fun x hx => h x (List.mem_cons_of_mem _ hx), PySem.W.KOpn.upper_one (h c List.mem_cons_self), one_len, List.length_cons]
    omega
theorem upper_not {z : Str} (h : Low 8 z) (h1 : 1 ≤ z.length) : (Txt.upper z).length ≤ 10000 ∧ isW (Txt.upper z) = false := by
  have hz : z = ⟨(cs z).toArray⟩ := PySem.Str.ext' (by simp [cs])
  have lo := h.2
  have l8 := h.1
  rw [cs_len] at h1
  generalize hl : cs z = l at hz lo l8 h1
  subst hz
  match l, h1, lo, l8 with
  | c :: l, _, lo, l8 =>
    have h128 : ∀ x ∈ c :: l, x < 128 := fun x hx => by have := lo x hx; omega
    refine ⟨by rw [up_len _ h128]; omega, ?_⟩
    have e : (⟨(c :: l).toArray⟩ : Str) = ⟨#[c]⟩ ++ ⟨l.toArray⟩ := PySem.Str.ext' (by
      show (c :: l).toArray = (#[c] ++ l.toArray)
      simp)
    have hc := lo c List.mem_cons_self
    rw [e, PySem.W.KOpn.upper_app, PySem.W.KOpn.upper_one (by omega), if_pos hc]
    have ho : okc (c - 32) = false := decide_eq_false (by omega)
    unfold isW
    rw [cs_app]
    simp [cs, ho]
theorem rg1 (a : Int) (q : -1000000000 ≤ a ∧ a ≤ 1000000000) (M : Mem) : gRg1 [.int a] M = .ok (rangeD 0 a) M := if_pos q
theorem rg2 (a b : Int) (q : (-1000000000 ≤ a ∧ a ≤ 1000000000) ∧ -1000000000 ≤ b ∧ b ≤ 1000000000) (M : Mem) : gRg2 [.int a, .int b] M = .ok (rangeD a b) M := if_pos q
abbrev sB1 : FS := (sIf (fB (eTwo gNe (eApp gRepr (aCons (eCall (g_is_word) [] 1 (aCons (eCut (eVar 0) (oSo (eVar 1)) (oSo (eVar 2))) aNil)) aNil)) (eApp gRepr (aCons (eTwo gLt' (eVar 1) (eVar 2)) aNil)))) (sRet (eBool false)) sNx)
abbrev sB2 : FS := (sFor (iRg2 (aCons (eVar 1) (aCons (eTwo gAdd (eApp gLen (aCons (eVar 0) aNil)) (eInt 1)) aNil))) (gNm 2) (sIf (fB (eTwo gNe (eApp gRepr (aCons (eCall (g_is_word) [] 1 (aCons (eCut (eVar 0) (oSo (eVar 1)) (oSo (eVar 2))) aNil)) aNil)) (eApp gRepr (aCons (eTwo gLt' (eVar 1) (eVar 2)) aNil)))) (sRet (eBool false)) sNx))
theorem turn1 {z : Str} (h : Low 8 z) {i j : Int} (i0 : 0 ≤ i) (j0 : i ≤ j) (j1 : j ≤ z.length) (M : Mem) : sB1 [some (.str z), some (.int i), some (.int j)] M = .ok (.nx [some (.str z), some (.int i), some (.int j)]) M := by
  have zl := h.len (by decide)
  have h8 : z.length ≤ 8 := by rw [cs_len]; exact h.1
  have lc := h.cut (some i) (some j)
  have cl := cutS_len2 z i0 j0 j1
  have hw : isW (cutS z (some i) (some j)) = decide (i < j) := by
    rw [lc.isW, decide_eq_decide, cl]
    omega
  have iw := fun M => is_word_ok (z := cutS z (some i) (some j)) (by omega) M
  simp [sB1, zl, iw, hw, repr_bl, -gRepr]
theorem mem_rg {a b : Int} {d : D} (hd : d ∈ rangeD a b) : ∃ j : Int, a ≤ j ∧ j < b ∧ d = .int j := by
  unfold rangeD at hd
  simp only [List.mem_map, List.mem_range] at hd
  obtain ⟨k, hk, rfl⟩ := hd
  exact ⟨a + k, by omega, by omega, rfl⟩
theorem loop1 {z : Str} (h : Low 8 z) {i : Int} (i0 : 0 ≤ i) (x2 : Option D) (M : Mem) : ∃ y, loopD (gNm 2) sB1 (rangeD i (z.length + 1)) [some (.str z), some (.int i), x2] M = .ok (.nx [some (.str z), some (.int i), y]) M := by
  obtain ⟨ρ', M', e, rfl, y, rfl⟩ := loop_inv (g := gNm 2) (body := sB1) (fun ρ M' => M' = M ∧ ∃ y, ρ = [some (.str z), some (.int i), y]) (xs := rangeD i (z.length + 1)) (ρ := [some (.str z), some (.int i), x2]) (M := M) (by
      rintro d hd ρ M' ⟨rfl, y, rfl⟩
      obtain ⟨j, j0, j1, rfl⟩ := mem_rg hd
      exact ⟨_, [some (.str z), some (.int i), some (.int j)], M', rfl, .inl (turn1 h i0 j0 (by omega) M'), rfl, _, rfl⟩) ⟨rfl, x2, rfl⟩
  exact ⟨y, e⟩
theorem for_eq {fi : FI} {g : TgD} {b : FS} {ρ : Ro} {M M1 : Mem} {xs : List D} {o : Out Fl} (h : fi ρ M = .ok xs M1) (e : loopD g b xs ρ M1 = o) : sFor fi g b ρ M = o := by unfold sFor; rw [h]; exact e
theorem turn2 {z : Str} (h : Low 8 z) {i : Int} (i0 : 0 ≤ i) (i1 : i ≤ z.length) (x2 : Option D) (M : Mem) : ∃ y, sB2 [some (.str z), some (.int i), x2] M = .ok (.nx [some (.str z), some (.int i), y]) M := by
  have zl := h.len (by decide)
  have h8 : z.length ≤ 8 := by rw [cs_len]; exact h.1
  obtain ⟨y, e⟩ := loop1 h i0 x2 M
  have r1 := rg2 i (z.length + 1) ⟨⟨by omega, by omega⟩, by omega, by omega⟩ M
  have q : (iRg2 (aCons (eVar 1) (aCons (eTwo gAdd (eApp gLen (aCons (eVar 0) aNil)) (eInt 1)) aNil))) [some (.str z), some (.int i), x2] M = gRg2 [.int i, .int (z.length + 1)] M := by simp [zl, -gRg2]
  exact ⟨y, for_eq (q.trans r1) e⟩
theorem loop3 {z : Str} (h : Low 8 z) {n : Int} (hn : n ≤ (z.length : Int) + 1) (M : Mem) : ∃ y1 y2, loopD (gNm 1) sB2 (rangeD 0 n) [some (.str z), none, none] M = .ok (.nx [some (.str z), y1, y2]) M := by
  obtain ⟨ρ', M', e, h2, y1, y2, h3⟩ := loop_inv (g := gNm 1) (body := sB2) (fun ρ M' => M' = M ∧ ∃ y1 y2, ρ = [some (.str z), y1, y2]) (xs := rangeD 0 n) (ρ := [some (.str z), none, none]) (M := M) (by
    rintro d hd ρ M' ⟨h2, y1, y2, h3⟩
    obtain ⟨i, i0, i1, h4⟩ := mem_rg hd
    obtain ⟨y, e⟩ := turn2 h i0 (by omega) y2 M
    refine ⟨[some (.str z), some (.int i), y2], [some (.str z), some (.int i), y], M, by rw [h3, h4]; rfl, .inl ?_, rfl, some (.int i), y, rfl⟩
    rw [h2]
    exact e) ⟨rfl, none, none, rfl⟩
  rw [h2, h3] at e
  exact ⟨y1, y2, e⟩
theorem rg_of {fg : FA} {ρ : Ro} {M M1 : Mem} {xs : List D} (h : fg ρ M = .ok xs M1) : iRg1 fg ρ M = gRg1 xs M1 := by
  unfold iRg1
  rw [h]
  rfl
theorem rgq {z : Str} (h : Low 8 z) (M : Mem) (a b : Option D) : (aCons (eTwo gAdd (eApp gLen (aCons (eVar 0) aNil)) (eInt 1)) aNil) [some (.str z), a, b] M = .ok [.int (z.length + 1)] M := by
  have zl := h.len (by decide)
  simp [zl]
theorem loop2 {z : Str} (h : Low 8 z) (M : Mem) : ∃ y1 y2, sFor (iRg1 (aCons (eTwo gAdd (eApp gLen (aCons (eVar 0) aNil)) (eInt 1)) aNil)) (gNm 1) sB2 [some (.str z), none, none] M = .ok (.nx [some (.str z), y1, y2]) M := by
  have h8 : z.length ≤ 8 := by rw [cs_len]; exact h.1
  have q := rgq h M none none
  generalize hn : (z.length : Int) + 1 = n at q
  have r1 := rg1 n ⟨by omega, by omega⟩ M
  obtain ⟨y1, y2, e⟩ := loop3 h (n := n) (by omega) M
  exact ⟨y1, y2, for_eq ((rg_of q).trans r1) e⟩
theorem stretches_ok {z : Str} (h : Low 8 z) (h1 : 1 ≤ z.length) (M : Mem) : g__law_stretches_right [.str z] M = .ok (.bl true) M := by
  have zl := h.len (by decide)
  have h8 : z.length ≤ 8 := by rw [cs_len]; exact h.1
  obtain ⟨y1, y2, e⟩ := loop2 h M
  have b1 := fun M => is_word_ok (z := backS z) (by rw [back_len]; omega) M
  have b2 : isW (backS z) = true := by rw [(back_low h).isW, back_len]; exact decide_eq_true ⟨h1, h8⟩
  have u1 := upper_not h h1
  have u2 := fun M => is_word_ok (z := Txt.upper z) u1.1 M
  simp [g__law_stretches_right, f__law_stretches_right, zl, e, b1, b2, u1.2, u2, -sFor, -sIf]
end K02
namespace K02
open PySem PySem.Spec PyProof.Rows L2 Den
abbrev sC1 : FS := (sIf (fB (eTwo gNe (eApp gRepr (aCons (eCall (g_is_word) [] 1 (aCons (eVar 5) aNil)) aNil)) (eApp gRepr (aCons (eAnd (eTwo (gInS fun b => b) (eVar 3) (eVar 2)) (eTwo gLt' (eApp gLen (aCons (eVar 5) aNil)) (eInt 9))) aNil)))) (sRet (eBool false)) sNx)
abbrev sC2 : FS := (sSeq (sSet 4 (eTwo gAdd (eCut (eVar 0) oNo (oSo (eVar 1))) (eVar 3))) (sFor (iVal (eLst (aCons (eTwo gAdd (eVar 4) (eCut (eVar 0) (oSo (eVar 1)) oNo)) (aCons (eTwo gAdd (eVar 4) (eCut (eVar 0) (oSo (eTwo gAdd (eVar 1) (eInt 1))) oNo)) aNil)))) (gNm 5) sC1))
theorem isW_in {a b : Str} {c n m : Nat} (ha : Low n a) (hb : Low m b) : isW (a ++ ⟨#[c]⟩ ++ b) = (okc c && decide ((a ++ ⟨#[c]⟩ ++ b).length < 9)) := by
  unfold isW
  have e1 : (cs (a ++ ⟨#[c]⟩ ++ b)).all okc = okc c := by
    rw [cs_app, cs_app, List.all_append, List.all_append, ha.all, hb.all]
    simp [cs]
  have e2 : decide (1 ≤ (a ++ ⟨#[c]⟩ ++ b).length ∧ (a ++ ⟨#[c]⟩ ++ b).length ≤ 8) = decide ((a ++ ⟨#[c]⟩ ++ b).length < 9) := by
    rw [decide_eq_decide, app_len, app_len, one_len]
    omega
  rw [e1, e2, Bool.and_comm]
theorem sign_turn {z hd t : Str} {p : Int} {c : Nat} (ht : t.length ≤ 10000) (hw : isW t = (okc c && decide (t.length < 9))) (M : Mem) :
    sC1 [some (.str z), some (.int p), some (.str alpha), some (.str ⟨#[c]⟩), some (.str hd), some (.str t)] M = .ok (.nx [some (.str z), some (.int p), some (.str alpha), some (.str ⟨#[c]⟩), some (.str hd), some (.str t)]) M := by
  have hin : decide (c ∈ alpha.cps.toList) = okc c := by
    unfold okc
    rw [decide_eq_decide]
    exact alpha_in
  have tl : t.length ≤ lineD := line1k ht
  have iw := fun M => is_word_ok (z := t) ht M
  have h9 : decide ((t.length : Int) < 9) = decide (t.length < 9) := by rw [decide_eq_decide]; omega
  have i1 : ∀ M, gInS (fun b => b) (.str ⟨#[c]⟩) (.str alpha) M = .ok (.bl (okc c)) M := fun M => by
    have : gInS (fun b => b) (.str ⟨#[c]⟩) (.str alpha) M = .ok (.bl (decide (c ∈ alpha.cps.toList))) M := by simp [gInS]
    rw [this, hin]
  by_cases hc : okc c = true
  · rw [hc, Bool.true_and] at hw
    rw [hc] at i1
    rw [← h9] at hw
    simp [sC1, tl, iw, hw, i1, repr_bl, -gRepr, -gInS]
  · have hc' : okc c = false := by simpa using hc
    rw [hc', Bool.false_and] at hw
    rw [hc'] at i1
    simp [sC1, tl, iw, hw, i1, repr_bl, -gRepr, -gInS]
theorem signs_turn {z : Str} {p : Int} {c : Nat} (h : Low 8 z) (x4 x5 : Option D) (M : Mem) :
    ∃ y4 y5, sC2 [some (.str z), some (.int p), some (.str alpha), some (.str ⟨#[c]⟩), x4, x5] M = .ok (.nx [some (.str z), some (.int p), some (.str alpha), some (.str ⟨#[c]⟩), y4, y5]) M := by
  have zl := h.len (by decide)
  have l1 := (h.cut none (some p))
  have l2 := (h.cut (some p) none)
  have l3 := (h.cut (some (p + 1)) none)
  have w1 := isW_in (c := c) l1 l2
  have w2 := isW_in (c := c) l1 l3
  have n1 : (cutS z none (some p)).length ≤ 8 := by rw [cs_len]; exact l1.1
  have n2 : (cutS z (some p) none).length ≤ 8 := by rw [cs_len]; exact l2.1
  have n3 : (cutS z (some (p + 1)) none).length ≤ 8 := by rw [cs_len]; exact l3.1
  have a1 : (cutS z none (some p)).length + (⟨#[c]⟩ : Str).length ≤ lineD := line1k (by rw [one_len]; omega)
  have a2 : (cutS z none (some p) ++ ⟨#[c]⟩).length + (cutS z (some p) none).length ≤ lineD := line1k (by rw [app_len, one_len]; omega)
  have a3 : (cutS z none (some p) ++ ⟨#[c]⟩).length + (cutS z (some (p + 1)) none).length ≤ lineD := line1k (by rw [app_len, one_len]; omega)
  have t1 := sign_turn (z := z) (hd := cutS z none (some p) ++ ⟨#[c]⟩) (p := p) (t := cutS z none (some p) ++ ⟨#[c]⟩ ++ cutS z (some p) none) (by rw [app_len, app_len, one_len]; omega) w1 M
  have t2 := sign_turn (z := z) (hd := cutS z none (some p) ++ ⟨#[c]⟩) (p := p) (t := cutS z none (some p) ++ ⟨#[c]⟩ ++ cutS z (some (p + 1)) none) (by rw [app_len, app_len, one_len]; omega) w2 M
  have q : ∀ x5, loopD (gNm 5) sC1 [.str (cutS z none (some p) ++ ⟨#[c]⟩ ++ cutS z (some p) none), .str (cutS z none (some p) ++ ⟨#[c]⟩ ++ cutS z (some (p + 1)) none)] [some (.str z), some (.int p), some (.str alpha), some (.str ⟨#[c]⟩), some (.str (cutS z none (some p) ++ ⟨#[c]⟩)), x5] M
      = .ok (.nx [some (.str z), some (.int p), some (.str alpha), some (.str ⟨#[c]⟩), some (.str (cutS z none (some p) ++ ⟨#[c]⟩)), some (.str (cutS z none (some p) ++ ⟨#[c]⟩ ++ cutS z (some (p + 1)) none))]) M := fun x5 => by
    simp only [loopD, gNm, List.set_cons_succ, List.set_cons_zero, t1, t2, Out.bind_ok]
  refine ⟨some (.str (cutS z none (some p) ++ ⟨#[c]⟩)), some (.str (cutS z none (some p) ++ ⟨#[c]⟩ ++ cutS z (some (p + 1)) none)), ?_⟩
  simp [sC2, zl, a1, a2, a3, q, line1k, -sIf]
theorem seq_eq {a b : FS} {ρ ρ1 : Ro} {M M1 : Mem} {o : Out Fl} (h : a ρ M = .ok (.nx ρ1) M1) (e : b ρ1 M1 = o) : sSeq a b ρ M = o := by unfold sSeq; simp only [Out.then]; rw [h]; exact e
theorem signs_ok {z : Str} {p : Int} (h : Low 8 z) (M : Mem) : g__law_signs_right [.str z, .int p] M = .ok (.bl true) M := by
  have lo : ∀ s : Str, ∃ ρ', loopD (gNm 3) sC2 (Den.signs s) [some (.str z), some (.int p), some (.str alpha), none, none, none] M = .ok (.nx ρ') M := by
    intro s
    obtain ⟨ρ', M', e, h2, _⟩ := loop_inv (g := gNm 3) (body := sC2) (fun ρ M' => M' = M ∧ ∃ y3 y4 y5, ρ = [some (.str z), some (.int p), some (.str alpha), y3, y4, y5]) (xs := Den.signs s) (ρ := [some (.str z), some (.int p), some (.str alpha), none, none, none]) (M := M) (by
      rintro d hd ρ M' ⟨h2, y3, y4, y5, h3⟩
      unfold Den.signs at hd
      obtain ⟨c, _, h4⟩ := List.mem_map.mp hd
      obtain ⟨u4, u5, e⟩ := signs_turn (p := p) (c := c) h y4 y5 M
      refine ⟨[some (.str z), some (.int p), some (.str alpha), some (.str ⟨#[c]⟩), y4, y5], [some (.str z), some (.int p), some (.str alpha), some (.str ⟨#[c]⟩), u4, u5], M, by rw [h3, ← h4]; rfl, .inl ?_, rfl, some (.str ⟨#[c]⟩), u4, u5, rfl⟩
      rw [h2]
      exact e) ⟨rfl, _, _, _, rfl⟩
    rw [h2] at e
    exact ⟨ρ', e⟩
  let odd : Str := " !\"#$&'()*+,-./0123456789:;<=>?@ABCDEFGHIJKLMNOPQRSTUVWXYZ[\\]^_`{|}~\n"
  obtain ⟨ρ', e⟩ := lo (alpha ++ odd)
  have ol : odd.length ≤ 100 := by decide +kernel
  have nl : alpha.length + odd.length ≤ lineD := line1k (by rw [al_len]; omega)
  have a1 : sSet 2 (eStr alpha) [some (.str z), some (.int p), none, none, none, none] M = .ok (.nx [some (.str z), some (.int p), some (.str alpha), none, none, none]) M := rfl
  have a2 : (iVal (eTwo gAdd (eVar 2) (eStr odd))) [some (.str z), some (.int p), some (.str alpha), none, none, none] M = .ok (Den.signs (alpha ++ odd)) M := by
    generalize odd = o at nl
    generalize alpha = a at nl
    simp [nl]
  have a3 : f__law_signs_right [some (.str z), some (.int p), none, none, none, none] M = .ok (.rt (.bl true)) M := seq_eq a1 (seq_eq (for_eq a2 e) rfl)
  simp [g__law_signs_right, a3]
end K02
namespace K02
open PySem PySem.Spec PyProof.Rows L2 Den
abbrev sD1 : FS := (sIf (fB (eTwo gNe (eApp gRepr (aCons (eCall (g_is_word) [] 1 (aCons (eVar 2) aNil)) aNil)) (eApp gRepr (aCons (eTwo gLe' (eApp gLen (aCons (eVar 2) aNil)) (eInt 8)) aNil)))) (sRet (eBool false)) sNx)
abbrev sD2 : FS := (sIf (tOrF (tNotF (fTru (eCall (g__law_stretches_right) [] 1 (aCons (eVar 2) aNil)))) (tNotF (fTru (eCall (g__law_signs_right) [] 2 (aCons (eVar 2) (aCons (eCall (g__law_draw) [] 2 (aCons (eVar 0) (aCons (eTwo gAdd (eApp gLen (aCons (eVar 2) aNil)) (eInt 1)) aNil))) aNil)))))) (sRet (eBool false)) sNx)
theorem d1_turn {t : Str} (ht : Low 16 t) (h1 : 1 ≤ t.length) (x0 x1 x3 x4 : Option D) (M : Mem) : sD1 [x0, x1, some (.str t), x3, x4] M = .ok (.nx [x0, x1, some (.str t), x3, x4]) M := by
  have tl := ht.len (by decide)
  have h16 : t.length ≤ 16 := by rw [cs_len]; exact ht.1
  have iw := fun M => is_word_ok (z := t) (by omega) M
  have hw : isW t = decide ((t.length : Int) ≤ 8) := by
    rw [ht.isW, decide_eq_decide]
    omega
  simp [sD1, tl, iw, hw, repr_bl, -gRepr, -gLe'_ap, le_int]
theorem d2_turn {t : Str} {n : Nat} (ht : Low 8 t) (h1 : 1 ≤ t.length) (x1 x3 x4 : Option D) {M : Mem} (hs : Stk M n) : ∃ M', sD2 [some (.loc n), x1, some (.str t), x3, x4] M = .ok (.nx [some (.loc n), x1, some (.str t), x3, x4]) M' ∧ Stk M' n := by
  have tl := ht.len (by decide)
  obtain ⟨r, M1, e, r0, r1, s1, _⟩ := draw_ok hs (t := (t.length : Int) + 1) (by omega) (log9 ht)
  have e1 := fun M => stretches_ok ht h1 M
  have e2 := fun M => signs_ok (p := r) ht M
  refine ⟨M1, ?_, s1⟩
  simp [sD2, tl, e1, e2, e]
theorem cell_ok {M : Mem} {n : Nat} (hs : Stk M n) : ∃ M', g__law_cell_right [.loc n] M = .ok (.bl true) M' := by
  obtain ⟨a, b, M1, e1, wa, wb, s1⟩ := many_ok hs
  obtain ⟨o, M2, e2, ho, s2, _⟩ := pick_ok (xs := [a, b]) s1 (by simp) (by simp)
  have wo : Word o := by
    rcases List.mem_cons.mp ho with q | q
    · rw [q]; exact wa
    · rw [List.mem_singleton.mp q]; exact wb
  obtain ⟨y, rfl, ly, hy⟩ := wa
  obtain ⟨z, rfl, lz, hz⟩ := wb
  obtain ⟨v, rfl, lv, hv⟩ := wo
  have yl := ly.len (by decide)
  have c1 := lv.cut none (some (8 - (y.length : Int)))
  have texts : ∀ d ∈ [D.str (y ++ v), .str (y ++ y), .str (v ++ y), .str (y ++ cutS v none (some (8 - (y.length : Int))))], ∃ t, d = .str t ∧ Low 16 t ∧ 1 ≤ t.length := by
    intro d hd
    simp only [List.mem_cons, List.not_mem_nil, or_false] at hd
    rcases hd with rfl | rfl | rfl | rfl
    · exact ⟨_, rfl, ly.app lv, by rw [app_len]; omega⟩
    · exact ⟨_, rfl, ly.app ly, by rw [app_len]; omega⟩
    · exact ⟨_, rfl, lv.app ly, by rw [app_len]; omega⟩
    · exact ⟨_, rfl, ly.app c1, by rw [app_len]; omega⟩
  obtain ⟨ρ3, M3, e3, h3, x3, h3'⟩ := loop_inv (g := gNm 2) (body := sD1) (fun ρ M' => M' = M2 ∧ ∃ x, ρ = [some (.loc n), some (.lst [.str y, .str z]), x, some (.str y), some (.str v)]) (xs := [D.str (y ++ v), .str (y ++ y), .str (v ++ y), .str (y ++ cutS v none (some (8 - (y.length : Int))))]) (ρ := [some (.loc n), some (.lst [.str y, .str z]), none, some (.str y), some (.str v)]) (M := M2) (by
    rintro d hd ρ M' ⟨h2, x, h3⟩
    obtain ⟨t, h4, lt, h1⟩ := texts d hd
    refine ⟨[some (.loc n), some (.lst [.str y, .str z]), some (.str t), some (.str y), some (.str v)], [some (.loc n), some (.lst [.str y, .str z]), some (.str t), some (.str y), some (.str v)], M2, by rw [h3, h4]; rfl, .inl ?_, rfl, some (.str t), rfl⟩
    rw [h2]
    exact d1_turn lt h1 _ _ _ _ M2) ⟨rfl, none, rfl⟩
  rw [h3, h3'] at e3
  obtain ⟨ρ4, M4, e4, h4, x4, h4'⟩ := loop_inv (g := gNm 2) (body := sD2) (fun ρ M' => Stk M' n ∧ ∃ x, ρ = [some (.loc n), some (.lst [.str y, .str z]), x, some (.str y), some (.str v)]) (xs := [.str y, .str z]) (ρ := [some (.loc n), some (.lst [.str y, .str z]), x3, some (.str y), some (.str v)]) (M := M2) (by
    rintro d hd ρ M' ⟨h2, x, h3⟩
    obtain ⟨t, h4, lt, h1⟩ : ∃ t, d = .str t ∧ Low 8 t ∧ 1 ≤ t.length := by
      simp only [List.mem_cons, List.not_mem_nil, or_false] at hd
      rcases hd with rfl | rfl
      · exact ⟨_, rfl, ly, hy⟩
      · exact ⟨_, rfl, lz, hz⟩
    obtain ⟨M5, e5, s5⟩ := d2_turn lt h1 (some (.lst [.str y, .str z])) (some (.str y)) (some (.str v)) h2
    exact ⟨[some (.loc n), some (.lst [.str y, .str z]), some (.str t), some (.str y), some (.str v)], [some (.loc n), some (.lst [.str y, .str z]), some (.str t), some (.str y), some (.str v)], M5, by rw [h3, h4]; rfl, .inl e5, s5, some (.str t), rfl⟩) ⟨s2, x3, rfl⟩
  have n1 := ly.app_ok lv (by decide)
  have n2 := ly.app_ok ly (by decide)
  have n3 := lv.app_ok ly (by decide)
  have n4 := ly.app_ok c1 (by decide)
  have vl := lv.len (by decide)
  refine ⟨M4, ?_⟩
  simp [g__law_cell_right, f__law_cell_right, e1, e2, yl, vl, n1, n2, n3, n4, e3, e4, line1k, atI, ixN, -sIf]
theorem law_right {ns : List Int} (hl : ns.length ≤ 63) : ∃ M', g_law [.scr (ns.map D.int)] [] = .ok (.bl true) M' := by
  have hm : ∃ m : Int, ∀ b : Option D, ∀ M, (iRg1 (aCons (eApp gMax (aCons (eInt 1) (aCons (eApp gMin (aCons (eInt 6) (aCons (eApp gLen (aCons (eVar 0) aNil)) aNil))) aNil))) aNil)) [some (.scr (ns.map D.int)), b] M = .ok (rangeD 0 m) M := by
    let q : Int := if 1 < (if (ns.length : Int) < 6 then (ns.length : Int) else 6) then (if (ns.length : Int) < 6 then (ns.length : Int) else 6) else 1
    have q1 : q ≤ 6 := by simp only [q]; split <;> split <;> omega
    have q2 : -1000000000 ≤ q := by simp only [q]; split <;> split <;> omega
    refine ⟨q, fun b M => ?_⟩
    have e : (iRg1 (aCons (eApp gMax (aCons (eInt 1) (aCons (eApp gMin (aCons (eInt 6) (aCons (eApp gLen (aCons (eVar 0) aNil)) aNil))) aNil))) aNil)) [some (.scr (ns.map D.int)), b] M = gRg1 [.int q] M := by
      simp only [q]
      simp [-gRg1]
    rw [e]
    exact rg1 _ ⟨q2, by omega⟩ M
  obtain ⟨m, hm⟩ := hm
  obtain ⟨ρ', M', e, v, rfl⟩ := loop_inv (g := gNm 1) (body := (sIf (tNotF (fTru (eCall (g__law_cell_right) [] 1 (aCons (eCall (g__law_stock) [] 2 (aCons (eVar 0) (aCons (eVar 1) aNil))) aNil)))) (sRet (eBool false)) sNx)) (fun ρ _ => ∃ v, ρ = [some (.scr (ns.map D.int)), v]) (xs := rangeD 0 m) (ρ := [some (.scr (ns.map D.int)), none]) (M := []) (by
    rintro x hx ρ M ⟨v, rfl⟩
    obtain ⟨k, rfl⟩ : ∃ k : Nat, x = .int k := by
      unfold rangeD at hx
      simp only [List.mem_map, List.mem_range] at hx
      obtain ⟨i, _, rfl⟩ := hx
      exact ⟨i, by simp⟩
    obtain ⟨M1, e1, s1⟩ := stock_ok (M := M) (ns := ns) (k := k)
    obtain ⟨M2, e2⟩ := cell_ok s1
    refine ⟨[some (.scr (ns.map D.int)), some (.int k)], [some (.scr (ns.map D.int)), some (.int k)], M2, rfl, .inl ?_, ⟨_, rfl⟩⟩
    simp [e1, e2]) ⟨none, rfl⟩
  refine ⟨M', ?_⟩
  simp [g_law, f_law, -iRg1, hm, e]
end K02
namespace K02
open PySem PySem.Spec PyProof.Rows L2 Den
/-! ### what the top has left, and the end -/
theorem all_mk {l : PySem.W.OpenLaw} {w : World} {K : Kf} {h : Heap} {mg : Str → Option Value} {fa f0 f1 f2 f3 f4 f5 f6 f7 f8 f9 f10 : Addr} (X : K.In h) (G : h.Ns mainGlobals mg) (hfa : mg "law" = some (.ref fa))
    {oc0 : Value} {od0 : Option Addr} {kV0 dc0 pm0 : Value} {an0 : Option Addr} {cd0 ct0 : Value} {sl0 : Array (Option Value)}
    {oc1 : Value} {od1 : Option Addr} {kV1 dc1 pm1 : Value} {an1 : Option Addr} {cd1 ct1 : Value} {sl1 : Array (Option Value)}
    {oc2 : Value} {od2 : Option Addr} {kV2 dc2 pm2 : Value} {an2 : Option Addr} {cd2 ct2 : Value} {sl2 : Array (Option Value)}
    {oc3 : Value} {od3 : Option Addr} {kV3 dc3 pm3 : Value} {an3 : Option Addr} {cd3 ct3 : Value} {sl3 : Array (Option Value)}
    {oc4 : Value} {od4 : Option Addr} {kV4 dc4 pm4 : Value} {an4 : Option Addr} {cd4 ct4 : Value} {sl4 : Array (Option Value)}
    {oc5 : Value} {od5 : Option Addr} {kV5 dc5 pm5 : Value} {an5 : Option Addr} {cd5 ct5 : Value} {sl5 : Array (Option Value)}
    {oc6 : Value} {od6 : Option Addr} {kV6 dc6 pm6 : Value} {an6 : Option Addr} {cd6 ct6 : Value} {sl6 : Array (Option Value)}
    {oc7 : Value} {od7 : Option Addr} {kV7 dc7 pm7 : Value} {an7 : Option Addr} {cd7 ct7 : Value} {sl7 : Array (Option Value)}
    {oc8 : Value} {od8 : Option Addr} {kV8 dc8 pm8 : Value} {an8 : Option Addr} {cd8 ct8 : Value} {sl8 : Array (Option Value)}
    {oc9 : Value} {od9 : Option Addr} {kV9 dc9 pm9 : Value} {an9 : Option Addr} {cd9 ct9 : Value} {sl9 : Array (Option Value)}
    {oc10 : Value} {od10 : Option Addr} {kV10 dc10 pm10 : Value} {an10 : Option Addr} {cd10 ct10 : Value} {sl10 : Array (Option Value)}
    {t_MAX_LETTERS : Tok}
    (a0 : PySem.W.nsIn K mainGlobals "is_word" = some (some (.ref f0)))
    (l0 : K.lookup f0 = some ⟨oc0, od0, .func (PySem.W.fnOf "is_word" "is_word" (defArgs s_is_word) (defBody s_is_word) (defScope s_is_word) .none kV0 dc0 pm0 an0 cd0 ct0), sl0⟩)
    (c0 : PySem.W.codeIn K cd0 "is_word" = true)
    (k0 : PySem.W.keepIn K (.ref f0) = true)
    (a1 : PySem.W.nsIn K mainGlobals "_law_stock" = some (some (.ref f1)))
    (l1 : K.lookup f1 = some ⟨oc1, od1, .func (PySem.W.fnOf "_law_stock" "_law_stock" (defArgs s__law_stock) (defBody s__law_stock) (defScope s__law_stock) .none kV1 dc1 pm1 an1 cd1 ct1), sl1⟩)
    (c1 : PySem.W.codeIn K cd1 "_law_stock" = true)
    (k1 : PySem.W.keepIn K (.ref f1) = true)
    (a2 : PySem.W.nsIn K mainGlobals "_law_draw" = some (some (.ref f2)))
    (l2 : K.lookup f2 = some ⟨oc2, od2, .func (PySem.W.fnOf "_law_draw" "_law_draw" (defArgs s__law_draw) (defBody s__law_draw) (defScope s__law_draw) .none kV2 dc2 pm2 an2 cd2 ct2), sl2⟩)
    (c2 : PySem.W.codeIn K cd2 "_law_draw" = true)
    (k2 : PySem.W.keepIn K (.ref f2) = true)
    (a3 : PySem.W.nsIn K mainGlobals "_law_pick" = some (some (.ref f3)))
    (l3 : K.lookup f3 = some ⟨oc3, od3, .func (PySem.W.fnOf "_law_pick" "_law_pick" (defArgs s__law_pick) (defBody s__law_pick) (defScope s__law_pick) .none kV3 dc3 pm3 an3 cd3 ct3), sl3⟩)
    (c3 : PySem.W.codeIn K cd3 "_law_pick" = true)
    (k3 : PySem.W.keepIn K (.ref f3) = true)
    (a4 : PySem.W.nsIn K mainGlobals "_law_shuffled" = some (some (.ref f4)))
    (l4 : K.lookup f4 = some ⟨oc4, od4, .func (PySem.W.fnOf "_law_shuffled" "_law_shuffled" (defArgs s__law_shuffled) (defBody s__law_shuffled) (defScope s__law_shuffled) .none kV4 dc4 pm4 an4 cd4 ct4), sl4⟩)
    (c4 : PySem.W.codeIn K cd4 "_law_shuffled" = true)
    (k4 : PySem.W.keepIn K (.ref f4) = true)
    (a5 : PySem.W.nsIn K mainGlobals "_law_letter" = some (some (.ref f5)))
    (l5 : K.lookup f5 = some ⟨oc5, od5, .func (PySem.W.fnOf "_law_letter" "_law_letter" (defArgs s__law_letter) (defBody s__law_letter) (defScope s__law_letter) .none kV5 dc5 pm5 an5 cd5 ct5), sl5⟩)
    (c5 : PySem.W.codeIn K cd5 "_law_letter" = true)
    (k5 : PySem.W.keepIn K (.ref f5) = true)
    (a6 : PySem.W.nsIn K mainGlobals "_law_many_words" = some (some (.ref f6)))
    (l6 : K.lookup f6 = some ⟨oc6, od6, .func (PySem.W.fnOf "_law_many_words" "_law_many_words" (defArgs s__law_many_words) (defBody s__law_many_words) (defScope s__law_many_words) .none kV6 dc6 pm6 an6 cd6 ct6), sl6⟩)
    (c6 : PySem.W.codeIn K cd6 "_law_many_words" = true)
    (k6 : PySem.W.keepIn K (.ref f6) = true)
    (a7 : PySem.W.nsIn K mainGlobals "_law_stretches_right" = some (some (.ref f7)))
    (l7 : K.lookup f7 = some ⟨oc7, od7, .func (PySem.W.fnOf "_law_stretches_right" "_law_stretches_right" (defArgs s__law_stretches_right) (defBody s__law_stretches_right) (defScope s__law_stretches_right) .none kV7 dc7 pm7 an7 cd7 ct7), sl7⟩)
    (c7 : PySem.W.codeIn K cd7 "_law_stretches_right" = true)
    (k7 : PySem.W.keepIn K (.ref f7) = true)
    (a8 : PySem.W.nsIn K mainGlobals "_law_signs_right" = some (some (.ref f8)))
    (l8 : K.lookup f8 = some ⟨oc8, od8, .func (PySem.W.fnOf "_law_signs_right" "_law_signs_right" (defArgs s__law_signs_right) (defBody s__law_signs_right) (defScope s__law_signs_right) .none kV8 dc8 pm8 an8 cd8 ct8), sl8⟩)
    (c8 : PySem.W.codeIn K cd8 "_law_signs_right" = true)
    (k8 : PySem.W.keepIn K (.ref f8) = true)
    (a9 : PySem.W.nsIn K mainGlobals "_law_cell_right" = some (some (.ref f9)))
    (l9 : K.lookup f9 = some ⟨oc9, od9, .func (PySem.W.fnOf "_law_cell_right" "_law_cell_right" (defArgs s__law_cell_right) (defBody s__law_cell_right) (defScope s__law_cell_right) .none kV9 dc9 pm9 an9 cd9 ct9), sl9⟩)
    (c9 : PySem.W.codeIn K cd9 "_law_cell_right" = true)
    (k9 : PySem.W.keepIn K (.ref f9) = true)
    (a10 : PySem.W.nsIn K mainGlobals "law" = some (some (.ref f10)))
    (l10 : K.lookup f10 = some ⟨oc10, od10, .func (PySem.W.fnOf "law" "law" (defArgs s_law) (defBody s_law) (defScope s_law) .none kV10 dc10 pm10 an10 cd10 ct10), sl10⟩)
    (c10 : PySem.W.codeIn K cd10 "law" = true)
    (k10 : PySem.W.keepIn K (.ref f10) = true)
    (b_abs : PySem.W.nsIn K mainGlobals "abs" = some none)
    (b_all : PySem.W.nsIn K mainGlobals "all" = some none)
    (b_int : PySem.W.nsIn K mainGlobals "int" = some none)
    (b_isinstance : PySem.W.nsIn K mainGlobals "isinstance" = some none)
    (b_len : PySem.W.nsIn K mainGlobals "len" = some none)
    (b_list : PySem.W.nsIn K mainGlobals "list" = some none)
    (b_max : PySem.W.nsIn K mainGlobals "max" = some none)
    (b_min : PySem.W.nsIn K mainGlobals "min" = some none)
    (b_range : PySem.W.nsIn K mainGlobals "range" = some none)
    (b_repr : PySem.W.nsIn K mainGlobals "repr" = some none)
    (b_str : PySem.W.nsIn K mainGlobals "str" = some none)
    (v_MAX_LETTERS : PySem.W.nsIn K mainGlobals "MAX_LETTERS" = some (some (.int 8 t_MAX_LETTERS)))
    : ∃ fd : FuncData, (∀ (s : Shared) (u : Value), BindsTo s fd ⟨[u], []⟩ [("_law_script", u)]) ∧ ∀ (base : Heap) (ns : List Int), ns.length ≤ 63 → K.In base → base.Ns mainGlobals mg → ∃ g M', FnG l.prog w K mg base CX0 5 fa fd ["_law_script"] g ∧ g [.scr (ns.map D.int)] [] = .ok (.bl true) M' := by
  have e := hfa.symm.trans (PySem.W.mg_of X G a10)
  cases e
  have F0 := fun_mk (st := s_is_word) l0 c0 k0
  have B0 := F0.binds (ps := ["value"]) fun _ _ _ _ _ _ us hl => match us, hl with | [_], _ => rfl
  have F1 := fun_mk (st := s__law_stock) l1 c1 k1
  have B1 := F1.binds (ps := ["_law_script", "_law_at"]) fun _ _ _ _ _ _ us hl => match us, hl with | [_, _], _ => rfl
  have F2 := fun_mk (st := s__law_draw) l2 c2 k2
  have B2 := F2.binds (ps := ["_law_stock_here", "_law_total"]) fun _ _ _ _ _ _ us hl => match us, hl with | [_, _], _ => rfl
  have F3 := fun_mk (st := s__law_pick) l3 c3 k3
  have B3 := F3.binds (ps := ["_law_stock_here", "_law_items"]) fun _ _ _ _ _ _ us hl => match us, hl with | [_, _], _ => rfl
  have F4 := fun_mk (st := s__law_shuffled) l4 c4 k4
  have B4 := F4.binds (ps := ["_law_stock_here", "_law_items"]) fun _ _ _ _ _ _ us hl => match us, hl with | [_, _], _ => rfl
  have F5 := fun_mk (st := s__law_letter) l5 c5 k5
  have B5 := F5.binds (ps := ["_law_stock_here"]) fun _ _ _ _ _ _ us hl => match us, hl with | [_], _ => rfl
  have F6 := fun_mk (st := s__law_many_words) l6 c6 k6
  have B6 := F6.binds (ps := ["_law_stock_here", "_law_much"]) fun _ _ _ _ _ _ us hl => match us, hl with | [_, _], _ => rfl
  have F7 := fun_mk (st := s__law_stretches_right) l7 c7 k7
  have B7 := F7.binds (ps := ["_law_word"]) fun _ _ _ _ _ _ us hl => match us, hl with | [_], _ => rfl
  have F8 := fun_mk (st := s__law_signs_right) l8 c8 k8
  have B8 := F8.binds (ps := ["_law_word", "_law_place"]) fun _ _ _ _ _ _ us hl => match us, hl with | [_, _], _ => rfl
  have F9 := fun_mk (st := s__law_cell_right) l9 c9 k9
  have B9 := F9.binds (ps := ["_law_stock_here"]) fun _ _ _ _ _ _ us hl => match us, hl with | [_], _ => rfl
  have F10 := fun_mk (st := s_law) l10 c10 k10
  have TX : Txt K mg  := ⟨PySem.W.mg_none_of X G b_abs,
    PySem.W.mg_none_of X G b_all,
    PySem.W.mg_none_of X G b_int,
    PySem.W.mg_none_of X G b_isinstance,
    PySem.W.mg_none_of X G b_len,
    PySem.W.mg_none_of X G b_list,
    PySem.W.mg_none_of X G b_max,
    PySem.W.mg_none_of X G b_min,
    PySem.W.mg_none_of X G b_range,
    PySem.W.mg_none_of X G b_repr,
    PySem.W.mg_none_of X G b_str,
    ⟨_, PySem.W.mg_of X G v_MAX_LETTERS⟩⟩
  refine ⟨PySem.W.fnOf "law" "law" (defArgs s_law) (defBody s_law) (defScope s_law) .none kV10 dc10 pm10 an10 cd10 ct10, fun s v => .of_eq rfl, fun base ns hl X1 G1 => ?_⟩
  have G0 : FnG l.prog w K mg base CX0 1 f0 _ ["value"] (g_is_word) := ok_is_word F0 TX
  have K0 : CalG l.prog w K mg base 1 "is_word" 1 (g_is_word) := ⟨⟨_, _, _, PySem.W.mg_of X G a0, k0, B0, rfl, G0⟩⟩
  have G1 : FnG l.prog w K mg base CX0 1 f1 _ ["_law_script", "_law_at"] (g__law_stock) := ok__law_stock F1 TX
  have K1 : CalG l.prog w K mg base 1 "_law_stock" 2 (g__law_stock) := ⟨⟨_, _, _, PySem.W.mg_of X G a1, k1, B1, rfl, G1⟩⟩
  have G2 : FnG l.prog w K mg base CX0 1 f2 _ ["_law_stock_here", "_law_total"] (g__law_draw) := ok__law_draw F2 TX
  have K2 : CalG l.prog w K mg base 1 "_law_draw" 2 (g__law_draw) := ⟨⟨_, _, _, PySem.W.mg_of X G a2, k2, B2, rfl, G2⟩⟩
  have G3 : FnG l.prog w K mg base CX0 2 f3 _ ["_law_stock_here", "_law_items"] (g__law_pick) := ok__law_pick F3 TX K2
  have K3 : CalG l.prog w K mg base 2 "_law_pick" 2 (g__law_pick) := ⟨⟨_, _, _, PySem.W.mg_of X G a3, k3, B3, rfl, G3⟩⟩
  have G4 : FnG l.prog w K mg base CX0 2 f4 _ ["_law_stock_here", "_law_items"] (g__law_shuffled) := ok__law_shuffled F4 TX K2
  have K4 : CalG l.prog w K mg base 2 "_law_shuffled" 2 (g__law_shuffled) := ⟨⟨_, _, _, PySem.W.mg_of X G a4, k4, B4, rfl, G4⟩⟩
  have G5 : FnG l.prog w K mg base CX0 2 f5 _ ["_law_stock_here"] (g__law_letter) := ok__law_letter F5 TX K2
  have K5 : CalG l.prog w K mg base 2 "_law_letter" 1 (g__law_letter) := ⟨⟨_, _, _, PySem.W.mg_of X G a5, k5, B5, rfl, G5⟩⟩
  have G7 : FnG l.prog w K mg base CX0 2 f7 _ ["_law_word"] (g__law_stretches_right) := ok__law_stretches_right F7 TX K0
  have K7 : CalG l.prog w K mg base 2 "_law_stretches_right" 1 (g__law_stretches_right) := ⟨⟨_, _, _, PySem.W.mg_of X G a7, k7, B7, rfl, G7⟩⟩
  have G8 : FnG l.prog w K mg base CX0 2 f8 _ ["_law_word", "_law_place"] (g__law_signs_right) := ok__law_signs_right F8 TX K0
  have K8 : CalG l.prog w K mg base 2 "_law_signs_right" 2 (g__law_signs_right) := ⟨⟨_, _, _, PySem.W.mg_of X G a8, k8, B8, rfl, G8⟩⟩
  have G6 : FnG l.prog w K mg base CX0 3 f6 _ ["_law_stock_here", "_law_much"] (g__law_many_words) := ok__law_many_words F6 TX K2 K5 K4
  have K6 : CalG l.prog w K mg base 3 "_law_many_words" 2 (g__law_many_words) := ⟨⟨_, _, _, PySem.W.mg_of X G a6, k6, B6, rfl, G6⟩⟩
  have G9 : FnG l.prog w K mg base CX0 4 f9 _ ["_law_stock_here"] (g__law_cell_right) := ok__law_cell_right F9 TX K2 K6 K3 K8 K7 K0
  have K9 : CalG l.prog w K mg base 4 "_law_cell_right" 1 (g__law_cell_right) := ⟨⟨_, _, _, PySem.W.mg_of X G a9, k9, B9, rfl, G9⟩⟩
  have G10 : FnG l.prog w K mg base CX0 5 fa _ ["_law_script"] (g_law) := ok_law F10 TX K9 K1
  obtain ⟨M1, e1⟩ := law_right  (ns := ns) hl
  exact ⟨_, M1, G10, e1⟩
end K02

open PySem PySem.W PyProof.Rows in
set_option maxRecDepth 100000 in
set_option maxHeartbeats 0 in
theorem PySem.Challenge.cw_fallsback_k02_whole_parts_of_words_holds : PySem.Challenge.rw_fallsback_k02_whole_parts_of_words.Holds := by
  w_on; o_law; k_head; (case hw => w_witness2)
  k_fill
  refine Den.walkG (n := 63) (k := 5) (x := "_law_script") (l := PySem.Challenge.rw_fallsback_k02_whole_parts_of_words) rfl (by decide) rfl ⟨rfl, by decide, by decide⟩ (fun w h Y => PySem.W.kIn_of Y) ?F
  case F =>
    intro w mg fa h KX G hmg
    refine' K02.all_mk KX G hmg ?a0 ?l0 ?c0 ?k0 ?a1 ?l1 ?c1 ?k1 ?a2 ?l2 ?c2 ?k2 ?a3 ?l3 ?c3 ?k3 ?a4 ?l4 ?c4 ?k4 ?a5 ?l5 ?c5 ?k5 ?a6 ?l6 ?c6 ?k6 ?a7 ?l7 ?c7 ?k7 ?a8 ?l8 ?c8 ?k8 ?a9 ?l9 ?c9 ?k9 ?a10 ?l10 ?c10 ?k10 ?b_abs ?b_all ?b_int ?b_isinstance ?b_len ?b_list ?b_max ?b_min ?b_range ?b_repr ?b_str ?v_MAX_LETTERS
    (case a0 => k_is)
    (case l0 => k_is)
    (case c0 => k_is)
    (case k0 => k_is)
    (case a1 => k_is)
    (case l1 => k_is)
    (case c1 => k_is)
    (case k1 => k_is)
    (case a2 => k_is)
    (case l2 => k_is)
    (case c2 => k_is)
    (case k2 => k_is)
    (case a3 => k_is)
    (case l3 => k_is)
    (case c3 => k_is)
    (case k3 => k_is)
    (case a4 => k_is)
    (case l4 => k_is)
    (case c4 => k_is)
    (case k4 => k_is)
    (case a5 => k_is)
    (case l5 => k_is)
    (case c5 => k_is)
    (case k5 => k_is)
    (case a6 => k_is)
    (case l6 => k_is)
    (case c6 => k_is)
    (case k6 => k_is)
    (case a7 => k_is)
    (case l7 => k_is)
    (case c7 => k_is)
    (case k7 => k_is)
    (case a8 => k_is)
    (case l8 => k_is)
    (case c8 => k_is)
    (case k8 => k_is)
    (case a9 => k_is)
    (case l9 => k_is)
    (case c9 => k_is)
    (case k9 => k_is)
    (case a10 => k_is)
    (case l10 => k_is)
    (case c10 => k_is)
    (case k10 => k_is)
    (case b_abs => k_is)
    (case b_all => k_is)
    (case b_int => k_is)
    (case b_isinstance => k_is)
    (case b_len => k_is)
    (case b_list => k_is)
    (case b_max => k_is)
    (case b_min => k_is)
    (case b_range => k_is)
    (case b_repr => k_is)
    (case b_str => k_is)
    (case v_MAX_LETTERS => k_is)
#print axioms PySem.Challenge.cw_fallsback_k02_whole_parts_of_words_holds
