import PyProof.Rows.All
import Wide.All
import OpenK.AllK
import Wide.FinOn
import HandS.ForMost
import HandS.Evl
import HandS.IsInst
import HandS.TupAny
import HandS.TupMul
import HandS.Zip
import HandS.Style
import HandS.Flow
import HandS.WordsExc
import HandS.SortKw
import PyProof.MinMaxWalk
import PyProof.WalkInts
import PyProof.EnumMake
import PyProof.Draws
import KE.GoesMore
import HandS.Wide
import PySem.Challenge.RW_widthmix_k11_whole_never_both
set_option Elab.async false
set_option linter.all false
set_option maxRecDepth 100000
set_option maxHeartbeats 4000000
namespace Fw
open PySem PySem.Spec PyProof.Rows L2
open Evl (Ex)
/-! ### data -/
inductive Dt where
  | non
  | bl (b : Bool)
  | int (i : Int)
  | str (s : Str)
  | lst (xs : List Dt)
  | tup (xs : List Dt)
  | dic
  | ptr (a : Addr)
  | cls (v : V)
  | scr (ns : List Int)
mutual
inductive Den (K : PySem.W.Frag) (G : Hp) : V → Dt → Prop
  | non : Den K G .non .non
  | bl (b : Bool) : Den K G (.bl b) (.bl b)
  | int (i : Int) : Den K G (.int i) (.int i)
  | str (x : Str) : Den K G (.str x) (.str x)
  | lst {a : Addr} {xs : List V} {ds : List Dt} : G a = some (.lst xs) → Dens K G xs ds → Den K G (.ref a) (.lst ds)
  | tup {a : Addr} {xs : List V} {ds : List Dt} : G a = some (.tup xs) → Dens K G xs ds → Den K G (.ref a) (.tup ds)
  | dic {a : Addr} : G a = some (.dK []) → Den K G (.ref a) .dic
  | ptr (a : Addr) : Den K G (.ref a) (.ptr a)
  | cls (v : V) : Den K G v (.cls v)
  | scr {a : Addr} {ns : List Int} : SqL K G a (ns.map V.int) → Den K G (.ref a) (.scr ns)
inductive Dens (K : PySem.W.Frag) (G : Hp) : List V → List Dt → Prop
  | nil : Dens K G [] []
  | cons {v : V} {vs : List V} {d : Dt} {ds : List Dt} : Den K G v d → Dens K G vs ds → Dens K G (v :: vs) (d :: ds)
end
section
variable {K : PySem.W.Frag} {G G' : Hp}
mutual
theorem Den.mono (e : Ex G G') : ∀ {v : V} {d : Dt}, Den K G v d → Den K G' v d
  | _, _, .non => .non
  | _, _, .bl b => .bl b
  | _, _, .int i => .int i
  | _, _, .str x => .str x
  | _, _, .lst h hs => .lst (e _ _ h) (Dens.mono e hs)
  | _, _, .tup h hs => .tup (e _ _ h) (Dens.mono e hs)
  | _, _, .dic h => .dic (e _ _ h)
  | _, _, .ptr a => .ptr a
  | _, _, .cls v => .cls v
  | _, _, .scr h => .scr (Evl.ex_l e h)
theorem Dens.mono (e : Ex G G') : ∀ {vs : List V} {ds : List Dt}, Dens K G vs ds → Dens K G' vs ds
  | _, _, .nil => .nil
  | _, _, .cons h hs => .cons (Den.mono e h) (Dens.mono e hs)
end
theorem Dens.len : ∀ {vs : List V} {ds : List Dt}, Dens K G vs ds → vs.length = ds.length
  | _, _, .nil => rfl
  | _, _, .cons _ hs => by rw [List.length_cons, List.length_cons, Dens.len hs]
theorem Dens.app : ∀ {vs us : List V} {ds es : List Dt}, Dens K G vs ds → Dens K G us es → Dens K G (vs ++ us) (ds ++ es)
  | _, _, _, _, .nil, h => h
  | _, _, _, _, .cons h hs, h2 => .cons h (Dens.app hs h2)
theorem Dens.get : ∀ {vs : List V} {ds : List Dt}, Dens K G vs ds → ∀ {i : Nat} {d : Dt}, ds[i]? = some d → ∃ v, vs[i]? = some v ∧ Den K G v d
  | _, _, .nil, _, _, h => by simp at h
  | _, _, .cons h hs, 0, d, e => by
    cases (show _ = d from Option.some.inj e)
    exact ⟨_, rfl, h⟩
  | _, _, .cons h hs, i + 1, d, e => Dens.get hs (i := i) e
theorem Dens.getV : ∀ {vs : List V} {ds : List Dt}, Dens K G vs ds → ∀ {i : Nat} {v : V}, vs[i]? = some v → ∃ d, ds[i]? = some d ∧ Den K G v d
  | _, _, .nil, _, _, h => by simp at h
  | _, _, .cons h hs, 0, v, e => by
    cases (show _ = v from Option.some.inj e)
    exact ⟨_, rfl, h⟩
  | _, _, .cons h hs, i + 1, v, e => Dens.getV hs (i := i) e
theorem Dens.drop : ∀ {vs : List V} {ds : List Dt}, Dens K G vs ds → ∀ n, Dens K G (vs.drop n) (ds.drop n)
  | _, _, h, 0 => h
  | _, _, .nil, n + 1 => .nil
  | _, _, .cons _ hs, n + 1 => Dens.drop hs n
theorem Dens.take : ∀ {vs : List V} {ds : List Dt}, Dens K G vs ds → ∀ n, Dens K G (vs.take n) (ds.take n)
  | _, _, _, 0 => .nil
  | _, _, .nil, n + 1 => .nil
  | _, _, .cons h hs, n + 1 => .cons h (Dens.take hs n)
theorem Dens.rev : ∀ {vs : List V} {ds : List Dt}, Dens K G vs ds → Dens K G vs.reverse ds.reverse
  | _, _, .nil => .nil
  | _, _, .cons h hs => by
    rw [List.reverse_cons, List.reverse_cons]
    exact (Dens.rev hs).app (.cons h .nil)
theorem Dens.ints : ∀ {vs : List V} {ns : List Int}, Dens K G vs (ns.map Dt.int) → vs = ns.map V.int
  | _, [], .nil => rfl
  | _, n :: ns, .cons h hs => by
    cases h
    rw [Dens.ints hs]
    rfl
theorem Dens.bls : ∀ {vs : List V} {ns : List Bool}, Dens K G vs (ns.map Dt.bl) → vs = ns.map V.bl
  | _, [], .nil => rfl
  | _, n :: ns, .cons h hs => by
    cases h
    rw [Dens.bls hs]
    rfl
theorem Dens.rep {vs : List V} {ds : List Dt} (h : Dens K G vs ds) : ∀ n, Dens K G (List.replicate n vs).flatten (List.replicate n ds).flatten
  | 0 => .nil
  | n + 1 => by
    rw [List.replicate_succ, List.replicate_succ, List.flatten_cons, List.flatten_cons]
    exact h.app (Dens.rep h n)
end
/-! ### the heap in three parts: data, what is owned, the frame -/
structure Sp3 (G R F H : Hp) : Prop where
  g : Ex G H
  r : Ex R H
  f : Ex F H
  gr : ∀ a, G a = none ∨ R a = none
  gf : ∀ a, G a = none ∨ F a = none
  rf : ∀ a, R a = none ∨ F a = none
theorem Ex.no {G H : Hp} (e : Ex G H) {p : Addr} (h : H p = none) : G p = none := Evl.fresh_back e h
section
variable {G R F H : Hp} {p : Addr} {o : HO}
theorem Sp3.new (s : Sp3 G R F H) (h : H p = none) : Sp3 (upd G p o) R F (upd H p o) := by
  have hg := Ex.no s.g h
  have hr := Ex.no s.r h
  have hf := Ex.no s.f h
  refine ⟨fun a u e => ?_, fun a u e => ?_, fun a u e => ?_, fun a => ?_, fun a => ?_, s.rf⟩
  · by_cases ha : a = p
    · subst ha
      rw [upd_same] at e ⊢
      exact e
    · rw [upd_ne ha] at e ⊢
      exact s.g a u e
  · have ha : a ≠ p := ne_of_none e hr
    rw [upd_ne ha]
    exact s.r a u e
  · have ha : a ≠ p := ne_of_none e hf
    rw [upd_ne ha]
    exact s.f a u e
  · by_cases ha : a = p
    · subst ha
      exact .inr hr
    · rw [upd_ne ha]
      exact s.gr a
  · by_cases ha : a = p
    · subst ha
      exact .inr hf
    · rw [upd_ne ha]
      exact s.gf a
theorem Ex.new1 (s : Sp3 G R F H) (h : H p = none) : Ex G (upd G p o) := Evl.Ex.new (Ex.no s.g h)
/-- a new object in the frame -/
theorem Sp3.newF (s : Sp3 G R F H) (h : H p = none) : Sp3 G R (upd F p o) (upd H p o) := by
  have hg := Ex.no s.g h
  have hr := Ex.no s.r h
  have hf := Ex.no s.f h
  refine ⟨fun a u e => ?_, fun a u e => ?_, fun a u e => ?_, s.gr, fun a => ?_, fun a => ?_⟩
  · have ha : a ≠ p := ne_of_none e hg
    rw [upd_ne ha]
    exact s.g a u e
  · have ha : a ≠ p := ne_of_none e hr
    rw [upd_ne ha]
    exact s.r a u e
  · by_cases ha : a = p
    · subst ha
      rw [upd_same] at e ⊢
      exact e
    · rw [upd_ne ha] at e ⊢
      exact s.f a u e
  · by_cases ha : a = p
    · subst ha
      exact .inl hg
    · rw [upd_ne ha]
      exact s.gf a
  · by_cases ha : a = p
    · subst ha
      exact .inl hr
    · rw [upd_ne ha]
      exact s.rf a
/-- the frame's own object changes -/
theorem Sp3.setF {o' : HO} (s : Sp3 G R (upd F p o) H) : Sp3 G R (upd F p o') (upd H p o') := by
  have hg : G p = none := by
    rcases s.gf p with h | h
    · exact h
    · rw [upd_same] at h
      cases h
  have hr : R p = none := by
    rcases s.rf p with h | h
    · exact h
    · rw [upd_same] at h
      cases h
  refine ⟨fun a u e => ?_, fun a u e => ?_, fun a u e => ?_, s.gr, fun a => ?_, fun a => ?_⟩
  · have ha : a ≠ p := ne_of_none e hg
    rw [upd_ne ha]
    exact s.g a u e
  · have ha : a ≠ p := ne_of_none e hr
    rw [upd_ne ha]
    exact s.r a u e
  · by_cases ha : a = p
    · subst ha
      rw [upd_same] at e ⊢
      exact e
    · rw [upd_ne ha] at e ⊢
      exact s.f a u (by rw [upd_ne ha]; exact e)
  · by_cases ha : a = p
    · subst ha
      exact .inl hg
    · rw [upd_ne ha]
      have q := s.gf a
      rw [upd_ne ha] at q
      exact q
  · by_cases ha : a = p
    · subst ha
      exact .inl hr
    · rw [upd_ne ha]
      have q := s.rf a
      rw [upd_ne ha] at q
      exact q
/-- the frame's object becomes data -/
theorem Sp3.give (s : Sp3 G R (upd F p o) H) (hf : F p = none) : Sp3 (upd G p o) R F H := by
  have hr : R p = none := by
    rcases s.rf p with h | h
    · exact h
    · rw [upd_same] at h
      cases h
  have hp : H p = some o := s.f p o upd_same
  refine ⟨fun a u e => ?_, s.r, fun a u e => ?_, fun a => ?_, fun a => ?_, fun a => ?_⟩
  · by_cases ha : a = p
    · subst ha
      rw [upd_same] at e
      cases e
      exact hp
    · rw [upd_ne ha] at e
      exact s.g a u e
  · have ha : a ≠ p := ne_of_none e hf
    exact s.f a u (by rw [upd_ne ha]; exact e)
  · by_cases ha : a = p
    · subst ha
      exact .inr hr
    · rw [upd_ne ha]
      exact s.gr a
  · by_cases ha : a = p
    · subst ha
      exact .inr hf
    · rw [upd_ne ha]
      have q := s.gf a
      rw [upd_ne ha] at q
      exact q
  · by_cases ha : a = p
    · subst ha
      exact .inr hf
    · have q := s.rf a
      rw [upd_ne ha] at q
      exact q
theorem Sp3.giveEx (s : Sp3 G R (upd F p o) H) : Ex G (upd G p o) := by
  have hg : G p = none := by
    rcases s.gf p with h | h
    · exact h
    · rw [upd_same] at h
      cases h
  exact Evl.Ex.new hg
end
/-! ### the slots -/
abbrev Sl := List (Option Dt)
structure EnvD (K : PySem.W.Frag) (G : Hp) (σ : L2.St) (Δ : Sl) : Prop where
  len : σ.length = Δ.length
  at' : ∀ (i : Nat) (d : Dt), Δ[i]? = some (some d) → ∃ v, σ[i]? = some (some v) ∧ Den K G v d
theorem EnvD.mono {K : PySem.W.Frag} {G G' : Hp} {σ : L2.St} {Δ : Sl} (h : EnvD K G σ Δ) (e : Ex G G') : EnvD K G' σ Δ := ⟨h.len, fun i d hi => by
  obtain ⟨v, a, b⟩ := h.at' i d hi
  exact ⟨v, a, b.mono e⟩⟩
theorem EnvD.set {K : PySem.W.Frag} {G : Hp} {σ : L2.St} {Δ : Sl} (h : EnvD K G σ Δ) {j : Nat} {v : V} {d : Dt} (hd : Den K G v d) : EnvD K G (σ.set j (some v)) (Δ.set j (some d)) := ⟨by rw [List.length_set, List.length_set]; exact h.len, fun i d' hi => by
  by_cases e : j = i
  · subst e
    by_cases hj : j < Δ.length
    · rw [List.getElem?_set_self hj] at hi
      cases hi
      exact ⟨v, List.getElem?_set_self (by rw [h.len]; exact hj), hd⟩
    · rw [List.getElem?_eq_none (by simpa using hj)] at hi
      cases hi
  · rw [List.getElem?_set_ne e] at hi ⊢
    exact h.at' i d' hi⟩
theorem EnvD.setN {K : PySem.W.Frag} {G : Hp} {σ : L2.St} {Δ : Sl} (h : EnvD K G σ Δ) {j : Nat} {v : Option V} : EnvD K G (σ.set j v) (Δ.set j none) := ⟨by rw [List.length_set, List.length_set]; exact h.len, fun i d' hi => by
  by_cases e : j = i
  · subst e
    by_cases hj : j < Δ.length
    · rw [List.getElem?_set_self hj] at hi
      cases hi
    · rw [List.getElem?_eq_none (by simpa using hj)] at hi
      cases hi
  · rw [List.getElem?_set_ne e] at hi ⊢
    exact h.at' i d' hi⟩
def wipeD (Δ : Sl) : List Nat → Sl
  | [] => Δ
  | v :: vs => (wipeD Δ vs).set v none
theorem EnvD.wipe {K : PySem.W.Frag} {G : Hp} {σ : L2.St} {Δ : Sl} (h : EnvD K G σ Δ) : ∀ vs : List Nat, EnvD K G (wipe σ vs) (wipeD Δ vs)
  | [] => h
  | v :: vs => (EnvD.wipe h vs).setN
theorem EnvD.start {K : PySem.W.Frag} {G : Hp} {N : List Str} {vs : List V} {ds : List Dt} (h : Dens K G vs ds) : EnvD K G (start N vs) (ds.map some ++ List.replicate (N.length - ds.length) none) := by
  refine ⟨?_, fun i d hi => ?_⟩
  · unfold L2.start
    simp only [List.length_append, List.length_map, List.length_replicate, h.len]
  · unfold L2.start
    by_cases hl : i < ds.length
    · rw [List.getElem?_append_left (by simpa using hl), List.getElem?_map] at hi
      obtain ⟨d', e1, e2⟩ := Option.map_eq_some_iff.mp hi
      cases e2
      obtain ⟨v, a, b⟩ := h.get e1
      refine ⟨v, ?_, b⟩
      rw [List.getElem?_append_left (by rw [List.length_map, h.len]; exact hl), List.getElem?_map, a]
      rfl
    · rw [List.getElem?_append_right (by simpa using hl), List.getElem?_replicate] at hi
      split at hi <;> cases hi
theorem wipe_set_mem {σ : L2.St} {x : Option V} {j : Nat} : ∀ {vs : List Nat}, j ∈ vs → wipe (σ.set j x) vs = wipe σ vs
  | v :: vs, h => by
    show (wipe (σ.set j x) vs).set v none = (wipe σ vs).set v none
    by_cases hj : j ∈ vs
    · rw [wipe_set_mem hj]
    · have e : v = j := by
        rcases List.mem_cons.mp h with q | q
        · exact q.symm
        · exact absurd q hj
      subst e
      have go : ∀ us : List Nat, v ∉ us → (wipe (σ.set v x) us) = (wipe σ us).set v x := fun us => by
        induction us with
        | nil => exact fun _ => rfl
        | cons u us ih =>
          intro hn
          show (wipe (σ.set v x) us).set u none = ((wipe σ us).set u none).set v x
          rw [ih (fun z => hn (List.mem_cons_of_mem _ z)), List.set_comm]
          exact fun z => hn (by rw [z]; exact List.mem_cons_self)
      rw [go vs hj, List.set_set]
theorem wipe_wipe {σ : L2.St} : ∀ {vs us : List Nat}, (∀ v ∈ vs, v ∈ us) → wipe (wipe σ vs) us = wipe σ us
  | [], us, _ => rfl
  | v :: vs, us, h => by
    show wipe ((wipe σ vs).set v none) us = wipe σ us
    rw [wipe_set_mem (h v List.mem_cons_self)]
    exact wipe_wipe fun u hu => h u (List.mem_cons_of_mem _ hu)
end Fw
set_option Elab.async false
set_option linter.all false
set_option maxRecDepth 100000
set_option maxHeartbeats 4000000
namespace Fw
open PySem PySem.Spec PyProof.Rows L2
open Evl (Ex)
/-- what is owned (a deck), by the number of draws so far at most; BIG draws are never made -/
abbrev BIG : Nat := 1000000000000
structure Res where
  p : Nat → Hp → Prop
  mono : ∀ {m n : Nat} {R : Hp}, m ≤ n → p m R → p n R
theorem Res.as2 (I : Res) {m a b : Nat} {R : Hp} (h : I.p (m + a + b) R) : I.p (m + (a + b)) R := by
  rw [← Nat.add_assoc]
  exact h
theorem Res.as3 (I : Res) {m a b c : Nat} {R : Hp} (h : I.p (m + a + b + c) R) : I.p (m + (a + b + c)) R := by
  rw [← Nat.add_assoc, ← Nat.add_assoc]
  exact h
def Ev (K : PySem.W.Frag) (I : Res) (c : Nat) (te : TE) (Δ : Sl) (P : Dt → Prop) : Prop :=
  ∀ m σ G F R H, m + c ≤ BIG → EnvD K G σ Δ → I.p m R → Sp3 G R F H → ∀ Q : VK, (∀ v d G' R' H', Ex G G' → I.p (m + c) R' → Sp3 G' R' F H' → Den K G' v d → P d → Q v H') → te σ H Q
def EvT (K : PySem.W.Frag) (I : Res) (c : Nat) (tt : TT) (Δ : Sl) (P : Bool → Prop) : Prop :=
  ∀ m σ G F R H, m + c ≤ BIG → EnvD K G σ Δ → I.p m R → Sp3 G R F H → ∀ Q : Bool → Hp → Prop, (∀ b G' R' H', Ex G G' → I.p (m + c) R' → Sp3 G' R' F H' → P b → Q b H') → tt σ H Q
def EvA (K : PySem.W.Frag) (I : Res) (c : Nat) (ta : TA) (Δ : Sl) (P : List Dt → Prop) : Prop :=
  ∀ m σ G F R H, m + c ≤ BIG → EnvD K G σ Δ → I.p m R → Sp3 G R F H → ∀ Q : List V → Hp → Prop, (∀ vs ds G' R' H', Ex G G' → I.p (m + c) R' → Sp3 G' R' F H' → Dens K G' vs ds → P ds → Q vs H') → ta σ H Q
def EvO (K : PySem.W.Frag) (I : Res) (c : Nat) (to : TO) (Δ : Sl) (P : Option Int → Prop) : Prop :=
  ∀ m σ G F R H, m + c ≤ BIG → EnvD K G σ Δ → I.p m R → Sp3 G R F H → ∀ Q : Option Int → Hp → Prop, (∀ o G' R' H', Ex G G' → I.p (m + c) R' → Sp3 G' R' F H' → P o → Q o H') → to σ H Q
/-- an operation on values -/
def OpD (K : PySem.W.Frag) (r : R2) (x y : Dt) (P : Dt → Prop) : Prop :=
  ∀ v w G F R H, Sp3 G R F H → Den K G v x → Den K G w y → ∀ Q : VK, (∀ z d G' H', Ex G G' → Sp3 G' R F H' → Den K G' z d → P d → Q z H') → r v w H Q
def UnD (K : PySem.W.Frag) (r : V → Hp → VK → Prop) (x : Dt) (P : Dt → Prop) : Prop :=
  ∀ v G F R H, Sp3 G R F H → Den K G v x → ∀ Q : VK, (∀ z d G' H', Ex G G' → Sp3 G' R F H' → Den K G' z d → P d → Q z H') → r v H Q
def CallD (K : PySem.W.Frag) (r : List V → Hp → VK → Prop) (xs : List Dt) (P : Dt → Prop) : Prop :=
  ∀ vs G F R H, Sp3 G R F H → Dens K G vs xs → ∀ Q : VK, (∀ z d G' H', Ex G G' → Sp3 G' R F H' → Den K G' z d → P d → Q z H') → r vs H Q
section
variable {K : PySem.W.Frag} {I : Res} {Δ : Sl} {ta tb tc te : TE} {t u : TT} {P P1 P2 P3 : Dt → Prop} {B B1 B2 : Bool → Prop}
theorem Ev.imp {c : Nat} (h : Ev K I c te Δ P) (hp : ∀ d, P d → P1 d) : Ev K I c te Δ P1 := fun m σ G F R H mb e i s Q q => h m σ G F R H mb e i s Q fun v d G' R' H' a b c dd p => q v d G' R' H' a b c dd (hp d p)
theorem Ev.le {c c' : Nat} (h : Ev K I c te Δ P) (hc : c ≤ c') : Ev K I c' te Δ P := fun m σ G F R H mb e i s Q q => h m σ G F R H (by omega) e i s Q fun v d G' R' H' a b c dd p => q v d G' R' H' a (I.mono (by omega) b) c dd p
theorem EvT.imp {c : Nat} (h : EvT K I c t Δ B) (hp : ∀ d, B d → B1 d) : EvT K I c t Δ B1 := fun m σ G F R H mb e i s Q q => h m σ G F R H mb e i s Q fun b G' R' H' a c dd p => q b G' R' H' a c dd (hp b p)
theorem EvT.le {c c' : Nat} (h : EvT K I c t Δ B) (hc : c ≤ c') : EvT K I c' t Δ B := fun m σ G F R H mb e i s Q q => h m σ G F R H (by omega) e i s Q fun b G' R' H' a c dd p => q b G' R' H' a (I.mono (by omega) c) dd p
theorem ev_var {i : Nat} {d : Dt} (h : Δ[i]? = some (some d)) : Ev K I 0 (tVar i) Δ (· = d) := fun m σ G F R H mb e i s Q q => by
  obtain ⟨v, a, b⟩ := e.at' _ _ h
  exact ⟨v, a, q v d G R H (Evl.Ex.refl _) i s b rfl⟩
theorem ev_int {n : Int} : Ev K I 0 (tC (.int n)) Δ (· = .int n) := fun m σ G F R H mb e i s Q q => q _ _ G R H (Evl.Ex.refl _) i s (.int n) rfl
theorem ev_bl {n : Bool} : Ev K I 0 (tC (.bl n)) Δ (· = .bl n) := fun m σ G F R H mb e i s Q q => q _ _ G R H (Evl.Ex.refl _) i s (.bl n) rfl
theorem ev_str {n : Str} : Ev K I 0 (tC (.str n)) Δ (· = .str n) := fun m σ G F R H mb e i s Q q => q _ _ G R H (Evl.Ex.refl _) i s (.str n) rfl
theorem ev_non : Ev K I 0 (tC .non) Δ (· = .non) := fun m σ G F R H mb e i s Q q => q _ _ G R H (Evl.Ex.refl _) i s .non rfl
theorem ev_cls {v : V} : Ev K I 0 (tC v) Δ (· = .cls v) := fun m σ G F R H mb e i s Q q => q _ _ G R H (Evl.Ex.refl _) i s (.cls v) rfl
theorem ev_op {c1 c2 : Nat} {r : R2} (ha : Ev K I c1 ta Δ P1) (hb : Ev K I c2 tb Δ P2) (hr : ∀ x y, P1 x → P2 y → OpD K r x y P) : Ev K I (c1 + c2) (tOp r ta tb) Δ P := fun m σ G F R H mb e i s Q q =>
  ha m σ G F R H (by omega) e i s _ fun x dx G1 R1 H1 e1 i1 s1 d1 p1 => hb _ σ G1 F R1 H1 (by omega) (e.mono e1) i1 s1 _ fun y dy G2 R2 H2 e2 i2 s2 d2 p2 =>
    hr dx dy p1 p2 x y G2 F R2 H2 s2 (d1.mono e2) d2 Q fun z d G3 H3 e3 s3 d3 p3 => q z d G3 R2 H3 ((e1.trans e2).trans e3) (I.as2 i2) s3 d3 p3
theorem ev_un {c : Nat} {r : V → Hp → VK → Prop} (ha : Ev K I c ta Δ P1) (hr : ∀ x, P1 x → UnD K r x P) : Ev K I c (tUn r ta) Δ P := fun m σ G F R H mb e i s Q q =>
  ha m σ G F R H mb e i s _ fun x dx G1 R1 H1 e1 i1 s1 d1 p1 => hr dx p1 x G1 F R1 H1 s1 d1 Q fun z d G3 H3 e3 s3 d3 p3 => q z d G3 R1 H3 (e1.trans e3) i1 s3 d3 p3
theorem ev_cb {c : Nat} {r : List V → Hp → VK → Prop} {tr : TA} {Ps : List Dt → Prop} (ha : EvA K I c tr Δ Ps) (hr : ∀ xs, Ps xs → CallD K r xs P) : Ev K I c (tCB r tr) Δ P := fun m σ G F R H mb e i s Q q =>
  ha m σ G F R H mb e i s _ fun x dx G1 R1 H1 e1 i1 s1 d1 p1 => hr dx p1 x G1 F R1 H1 s1 d1 Q fun z d G3 H3 e3 s3 d3 p3 => q z d G3 R1 H3 (e1.trans e3) i1 s3 d3 p3
theorem ea_nil : EvA K I 0 tNil Δ (· = []) := fun m σ G F R H mb e i s Q q => q _ _ G R H (Evl.Ex.refl _) i s .nil rfl
theorem ea_cons {c1 c2 : Nat} {tr : TA} {Ps : List Dt → Prop} (ha : Ev K I c1 ta Δ P1) (hr : EvA K I c2 tr Δ Ps) : EvA K I (c1 + c2) (tCons ta tr) Δ (fun ds => ∃ d es, ds = d :: es ∧ P1 d ∧ Ps es) := fun m σ G F R H mb e i s Q q =>
  ha m σ G F R H (by omega) e i s _ fun x dx G1 R1 H1 e1 i1 s1 d1 p1 => hr _ σ G1 F R1 H1 (by omega) (e.mono e1) i1 s1 _ fun ys dys G2 R2 H2 e2 i2 s2 d2 p2 =>
    q _ _ G2 R2 H2 (e1.trans e2) (I.as2 i2) s2 (.cons (d1.mono e2) d2) ⟨_, _, rfl, p1, p2⟩
theorem ev_tup {c : Nat} {tr : TA} {Ps : List Dt → Prop} (ha : EvA K I c tr Δ Ps) (hl : ∀ ds, Ps ds → ds.length ≤ sizeLine ∧ P (.tup ds)) : Ev K I c (tTup tr) Δ P := fun m σ G F R H mb e i s Q q =>
  ha m σ G F R H mb e i s _ fun xs ds G1 R1 H1 e1 i1 s1 d1 p1 => ⟨by rw [d1.len]; exact (hl ds p1).1, fun p hp => q _ _ _ _ _ (e1.trans (Ex.new1 s1 hp)) i1 (s1.new hp) (.tup upd_same (d1.mono (Ex.new1 s1 hp))) (hl ds p1).2⟩
theorem ev_lst {c : Nat} {tr : TA} {Ps : List Dt → Prop} (ha : EvA K I c tr Δ Ps) (hl : ∀ ds, Ps ds → ds.length ≤ sizeLine ∧ P (.lst ds)) : Ev K I c (tLst tr) Δ P := fun m σ G F R H mb e i s Q q =>
  ha m σ G F R H mb e i s _ fun xs ds G1 R1 H1 e1 i1 s1 d1 p1 => ⟨by rw [d1.len]; exact (hl ds p1).1, fun p hp => q _ _ _ _ _ (e1.trans (Ex.new1 s1 hp)) i1 (s1.new hp) (.lst upd_same (d1.mono (Ex.new1 s1 hp))) (hl ds p1).2⟩
/-! tests -/
theorem et_test {c : Nat} (h : Ev K I c te Δ P) (hb : ∀ d, P d → ∃ b, d = .bl b ∧ B b) : EvT K I c (tTest te) Δ B := fun m σ G F R H mb e i s Q q =>
  h m σ G F R H mb e i s _ fun v d G1 R1 H1 e1 i1 s1 d1 p1 => by
    obtain ⟨b, rfl, hB⟩ := hb d p1
    cases d1
    exact ⟨b, rfl, q b G1 R1 H1 e1 i1 s1 hB⟩
theorem et_B {c : Nat} (h : Ev K I c te Δ P) (hb : ∀ d, P d → ∃ b, d = .bl b ∧ B b) : EvT K I c (tB te) Δ B := et_test h hb
theorem et_and {c1 c2 : Nat} (h1 : EvT K I c1 t Δ B1) (h2 : B1 true → EvT K I c2 u Δ B) (h3 : B1 false → B false) : EvT K I (c1 + c2) (tAnd t u) Δ B := fun m σ G F R H mb e i s Q q =>
  h1 m σ G F R H (by omega) e i s _ fun b G1 R1 H1 e1 i1 s1 p1 => by
    cases b with
    | true =>
      show u σ H1 Q
      exact h2 p1 _ σ G1 F R1 H1 (by omega) (e.mono e1) i1 s1 Q fun b G2 R2 H2 e2 i2 s2 p2 => q b G2 R2 H2 (e1.trans e2) (I.as2 i2) s2 p2
    | false =>
      show Q false H1
      exact q _ G1 R1 H1 e1 (I.mono (by omega) i1) s1 (h3 p1)
theorem et_or {c1 c2 : Nat} (h1 : EvT K I c1 t Δ B1) (h2 : B1 false → EvT K I c2 u Δ B) (h3 : B1 true → B true) : EvT K I (c1 + c2) (tOr t u) Δ B := fun m σ G F R H mb e i s Q q =>
  h1 m σ G F R H (by omega) e i s _ fun b G1 R1 H1 e1 i1 s1 p1 => by
    cases b with
    | false =>
      show u σ H1 Q
      exact h2 p1 _ σ G1 F R1 H1 (by omega) (e.mono e1) i1 s1 Q fun b G2 R2 H2 e2 i2 s2 p2 => q b G2 R2 H2 (e1.trans e2) (I.as2 i2) s2 p2
    | true =>
      show Q true H1
      exact q _ G1 R1 H1 e1 (I.mono (by omega) i1) s1 (h3 p1)
theorem et_not {c : Nat} (h1 : EvT K I c t Δ B1) (h : ∀ b, B1 b → B (!b)) : EvT K I c (tNot t) Δ B := fun m σ G F R H mb e i s Q q =>
  h1 m σ G F R H mb e i s _ fun b G1 R1 H1 e1 i1 s1 p1 => q _ G1 R1 H1 e1 i1 s1 (h b p1)
theorem ev_andV {c1 c2 : Nat} (h1 : Ev K I c1 ta Δ P1) (hb : ∀ d, P1 d → ∃ b, d = .bl b ∧ B b) (h2 : B true → Ev K I c2 tb Δ P) (h3 : B false → P (.bl false)) : Ev K I (c1 + c2) (tAndV ta tb) Δ P := fun m σ G F R H mb e i s Q q =>
  h1 m σ G F R H (by omega) e i s _ fun v d G1 R1 H1 e1 i1 s1 d1 p1 => by
    obtain ⟨b, rfl, hB⟩ := hb d p1
    cases d1
    refine ⟨b, rfl, ?_⟩
    cases b with
    | true =>
      show tb σ H1 Q
      exact h2 hB _ σ G1 F R1 H1 (by omega) (e.mono e1) i1 s1 Q fun v d G2 R2 H2 e2 i2 s2 d2 p2 => q v d G2 R2 H2 (e1.trans e2) (I.as2 i2) s2 d2 p2
    | false =>
      show Q (.bl false) H1
      exact q _ _ G1 R1 H1 e1 (I.mono (by omega) i1) s1 (.bl false) (h3 hB)
theorem ev_orV {c1 c2 : Nat} (h1 : Ev K I c1 ta Δ P1) (hb : ∀ d, P1 d → ∃ b, d = .bl b ∧ B b) (h2 : B false → Ev K I c2 tb Δ P) (h3 : B true → P (.bl true)) : Ev K I (c1 + c2) (tOrV ta tb) Δ P := fun m σ G F R H mb e i s Q q =>
  h1 m σ G F R H (by omega) e i s _ fun v d G1 R1 H1 e1 i1 s1 d1 p1 => by
    obtain ⟨b, rfl, hB⟩ := hb d p1
    cases d1
    refine ⟨b, rfl, ?_⟩
    cases b with
    | false =>
      show tb σ H1 Q
      exact h2 hB _ σ G1 F R1 H1 (by omega) (e.mono e1) i1 s1 Q fun v d G2 R2 H2 e2 i2 s2 d2 p2 => q v d G2 R2 H2 (e1.trans e2) (I.as2 i2) s2 d2 p2
    | true =>
      show Q (.bl true) H1
      exact q _ _ G1 R1 H1 e1 (I.mono (by omega) i1) s1 (.bl true) (h3 hB)
theorem ev_notV {c : Nat} (h1 : Ev K I c ta Δ P1) (hb : ∀ d, P1 d → ∃ b, d = .bl b ∧ P (.bl !b)) : Ev K I c (tNotV ta) Δ P := fun m σ G F R H mb e i s Q q =>
  h1 m σ G F R H mb e i s _ fun v d G1 R1 H1 e1 i1 s1 d1 p1 => by
    obtain ⟨b, rfl, hB⟩ := hb d p1
    cases d1
    exact ⟨b, rfl, q _ _ G1 R1 H1 e1 i1 s1 (.bl _) hB⟩
theorem ev_if {c1 c2 c3 : Nat} (h1 : EvT K I c1 t Δ B) (h2 : B true → Ev K I c2 ta Δ P) (h3 : B false → Ev K I c3 tb Δ P) : Ev K I (c1 + (c2 + c3)) (tIf t ta tb) Δ P := fun m σ G F R H mb e i s Q q =>
  h1 m σ G F R H (by omega) e i s _ fun b G1 R1 H1 e1 i1 s1 p1 => by
    cases b with
    | true =>
      show ta σ H1 Q
      exact h2 p1 _ σ G1 F R1 H1 (by omega) (e.mono e1) i1 s1 Q fun v d G2 R2 H2 e2 i2 s2 d2 p2 => q v d G2 R2 H2 (e1.trans e2) (I.mono (by omega) i2) s2 d2 p2
    | false =>
      show tb σ H1 Q
      exact h3 p1 _ σ G1 F R1 H1 (by omega) (e.mono e1) i1 s1 Q fun v d G2 R2 H2 e2 i2 s2 d2 p2 => q v d G2 R2 H2 (e1.trans e2) (I.mono (by omega) i2) s2 d2 p2
/-- a chain a op b op' c -/
theorem ev_chain {c1 c2 c3 : Nat} {r r' : R2} (ha : Ev K I c1 ta Δ P1) (hb : Ev K I c2 tb Δ P2) (hr : ∀ x y, P1 x → P2 y → OpD K r x y (fun d => ∃ b, d = .bl b ∧ B b)) (hc : B true → Ev K I c3 tc Δ P3) (hr' : ∀ y z, P2 y → P3 z → B true → OpD K r' y z P) (hf : B false → P (.bl false)) : Ev K I (c1 + c2 + c3) (tChain r r' ta tb tc) Δ P := fun m σ G F R H mb e i s Q q =>
  ha m σ G F R H (by omega) e i s _ fun x dx G1 R1 H1 e1 i1 s1 d1 p1 => hb _ σ G1 F R1 H1 (by omega) (e.mono e1) i1 s1 _ fun y dy G2 R2 H2 e2 i2 s2 d2 p2 =>
    hr dx dy p1 p2 x y G2 F R2 H2 s2 (d1.mono e2) d2 _ fun z d G3 H3 e3 s3 d3 p3 => by
      obtain ⟨b, rfl, hB⟩ := p3
      cases d3
      refine ⟨b, rfl, ?_⟩
      cases b with
      | true =>
        show tc σ H3 _
        exact hc hB _ σ G3 F R2 H3 (by omega) ((e.mono (e1.trans e2)).mono e3) i2 s3 _ fun w dw G4 R4 H4 e4 i4 s4 d4 p4 =>
          hr' dy dw p2 p4 hB y w G4 F R4 H4 s4 ((d2.mono e3).mono e4) d4 Q fun z d G5 H5 e5 s5 d5 p5 => q z d G5 R4 H5 ((((e1.trans e2).trans e3).trans e4).trans e5) (I.as3 i4) s5 d5 p5
      | false =>
        show Q (.bl false) H3
        exact q _ _ G3 R2 H3 ((e1.trans e2).trans e3) (I.mono (by omega) i2) s3 (.bl false) (hf hB)
/-! slices -/
theorem eo_none : EvO K I 0 tNoPart Δ (· = none) := fun m σ G F R H mb e i s Q q => q none G R H (Evl.Ex.refl _) i s rfl
theorem eo_some {c : Nat} (h : Ev K I c te Δ P) {O : Option Int → Prop} (hi : ∀ d, P d → ∃ n, d = .int n ∧ O (some n)) : EvO K I c (tPart te) Δ O := fun m σ G F R H mb e i s Q q =>
  h m σ G F R H mb e i s _ fun v d G1 R1 H1 e1 i1 s1 d1 p1 => by
    obtain ⟨n, rfl, hO⟩ := hi d p1
    cases d1
    exact ⟨n, rfl, q _ G1 R1 H1 e1 i1 s1 hO⟩
def SlD (K : PySem.W.Frag) (r : V → Option Int → Option Int → Hp → VK → Prop) (x : Dt) (lo hi : Option Int) (P : Dt → Prop) : Prop :=
  ∀ v G F R H, Sp3 G R F H → Den K G v x → ∀ Q : VK, (∀ z d G' H', Ex G G' → Sp3 G' R F H' → Den K G' z d → P d → Q z H') → r v lo hi H Q
theorem ev_sl {c1 c2 c3 : Nat} {r : V → Option Int → Option Int → Hp → VK → Prop} {tl th : TO} {O1 O2 : Option Int → Prop} (ha : Ev K I c1 te Δ P1) (hl : EvO K I c2 tl Δ O1) (hh : EvO K I c3 th Δ O2) (hr : ∀ x lo hi, P1 x → O1 lo → O2 hi → SlD K r x lo hi P) : Ev K I (c1 + c2 + c3) (tSl r te tl th) Δ P := fun m σ G F R H mb e i s Q q =>
  ha m σ G F R H (by omega) e i s _ fun x dx G1 R1 H1 e1 i1 s1 d1 p1 => hl _ σ G1 F R1 H1 (by omega) (e.mono e1) i1 s1 _ fun lo G2 R2 H2 e2 i2 s2 p2 => hh _ σ G2 F R2 H2 (by omega) ((e.mono e1).mono e2) i2 s2 _ fun hi G3 R3 H3 e3 i3 s3 p3 =>
    hr dx lo hi p1 p2 p3 x G3 F R3 H3 s3 ((d1.mono e2).mono e3) Q fun z d G4 H4 e4 s4 d4 p4 => q z d G4 R3 H4 (((e1.trans e2).trans e3).trans e4) (I.as3 i3) s4 d4 p4
end
/-! ### operations on ints -/
section
variable {K : PySem.W.Frag} {i j : Int} {x y : Dt}
theorem opd_I0 {g : Int → Int → V} {d : Dt} (h : ∀ G, Den K G (g i j) d) : OpD K (rI0 g) (.int i) (.int j) (· = d) := fun v w G F R H s hv hw Q q => by
  cases hv
  cases hw
  exact ⟨i, j, rfl, rfl, q _ d G H (Evl.Ex.refl _) s (h G) rfl⟩
theorem opd_I {C : Int → Int → Prop} {g : Int → Int → V} {d : Dt} (hc : C i j) (h : ∀ G, Den K G (g i j) d) : OpD K (rI C g) (.int i) (.int j) (· = d) := fun v w G F R H s hv hw Q q => by
  cases hv
  cases hw
  exact ⟨i, j, rfl, rfl, hc, q _ d G H (Evl.Ex.refl _) s (h G) rfl⟩
theorem opd_add : OpD K (rI0 fun i j => .int (i + j)) (.int i) (.int j) (· = .int (i + j)) := opd_I0 fun _ => .int _
theorem opd_sub : OpD K (rI0 fun i j => .int (i - j)) (.int i) (.int j) (· = .int (i - j)) := opd_I0 fun _ => .int _
theorem opd_mul (h : CMul i j) : OpD K (rI CMul fun i j => .int (i * j)) (.int i) (.int j) (· = .int (i * j)) := opd_I h fun _ => .int _
theorem opd_mod (h : 0 < j) : OpD K (rI (fun _ j => 0 < j) fun i j => .int (i % j)) (.int i) (.int j) (· = .int (i % j)) := opd_I h fun _ => .int _
theorem opd_fdiv (h : CDiv i j) : OpD K (rI CDiv fun i j => .int (i / j)) (.int i) (.int j) (· = .int (i / j)) := opd_I h fun _ => .int _
theorem opd_pow (h : CPow i j) : OpD K (rI CPow fun i j => .int (i ^ j.toNat)) (.int i) (.int j) (· = .int (i ^ j.toNat)) := opd_I h fun _ => .int _
theorem opd_lt : OpD K (rI0 fun i j => .bl (decide (i < j))) (.int i) (.int j) (· = .bl (decide (i < j))) := opd_I0 fun _ => .bl _
theorem opd_le : OpD K (rI0 fun i j => .bl (decide (i ≤ j))) (.int i) (.int j) (· = .bl (decide (i ≤ j))) := opd_I0 fun _ => .bl _
theorem opd_gt : OpD K (rI0 fun i j => .bl (decide (j < i))) (.int i) (.int j) (· = .bl (decide (j < i))) := opd_I0 fun _ => .bl _
theorem opd_ge : OpD K (rI0 fun i j => .bl (decide (j ≤ i))) (.int i) (.int j) (· = .bl (decide (j ≤ i))) := opd_I0 fun _ => .bl _
theorem und_neg : UnD K (rU fun i => .int (-i)) (.int i) (· = .int (-i)) := fun v G F R H s hv Q q => by
  cases hv
  exact ⟨i, rfl, q _ _ G H (Evl.Ex.refl _) s (.int _) rfl⟩
/-- scalars -/
def scalD : Dt → Dt → Bool
  | .int _, .int _ => true
  | .bl _, .bl _ => true
  | .str _, .str _ => true
  | _, _ => false
def eqS : Dt → Dt → Bool
  | .int i, .int j => decide (i = j)
  | .bl i, .bl j => decide (i = j)
  | .str i, .str j => decide (i = j)
  | _, _ => false
theorem opd_eq (h : scalD x y = true) : OpD K rEq x y (· = .bl (eqS x y)) := fun v w G F R H s hv hw Q q => by
  cases hv <;> cases hw <;> first | (cases h; done) | skip
  all_goals refine ⟨rfl, q _ _ G H (Evl.Ex.refl _) s (.bl _) ?_⟩
  all_goals (congr 1; simp only [eqS, V.bl.injEq, V.int.injEq, V.str.injEq])
theorem opd_ne (h : scalD x y = true) : OpD K rNe x y (· = .bl (!eqS x y)) := fun v w G F R H s hv hw Q q => by
  cases hv <;> cases hw <;> first | (cases h; done) | skip
  all_goals refine ⟨rfl, q _ _ G H (Evl.Ex.refl _) s (.bl _) ?_⟩
  all_goals (congr 1; simp only [eqS, V.bl.injEq, V.int.injEq, V.str.injEq])
def isN : Dt → Bool
  | .non => true
  | _ => false
theorem opd_isN {r : R2} (hr : r = fun x y H Q => y = V.non ∧ Q (.bl (decide (x = V.non))) H) (hx : ∀ v, x ≠ .cls v) : OpD K r x .non (· = .bl (isN x)) := by
  subst hr
  intro v w G F R H s hv hw Q q
  refine ⟨by cases hw; rfl, q _ _ G H (Evl.Ex.refl _) s (.bl _) ?_⟩
  cases hv <;> first | rfl | exact absurd rfl (hx _)
theorem opd_notN {r : R2} (hr : r = fun x y H Q => y = V.non ∧ Q (.bl (!decide (x = V.non))) H) (hx : ∀ v, x ≠ .cls v) : OpD K r x .non (· = .bl (!isN x)) := by
  subst hr
  intro v w G F R H s hv hw Q q
  refine ⟨by cases hw; rfl, q _ _ G H (Evl.Ex.refl _) s (.bl _) ?_⟩
  cases hv <;> first | rfl | exact absurd rfl (hx _)
end
end Fw
set_option Elab.async false
set_option linter.all false
set_option maxRecDepth 100000
set_option maxHeartbeats 4000000
namespace Fw
open PySem PySem.Spec PyProof.Rows L2
open Evl (Ex)
section
variable {K : PySem.W.Frag} {i j : Int} {x y : Dt} {xs ys : List Dt}
theorem Sp3.tupH {G R F H : Hp} (s : Sp3 G R F H) {a : Addr} {vs : List V} (h : G a = some (.tup vs)) : SqT K H a vs := Or.inl (Or.inl (s.g _ _ h))
theorem Sp3.lstH {G R F H : Hp} (s : Sp3 G R F H) {a : Addr} {vs : List V} (h : G a = some (.lst vs)) : SqL K H a vs := Or.inl (Or.inl (s.g _ _ h))
theorem ixN_lt {n : Nat} {i : Int} {k : Nat} (h : ixN n i = some k) : k < n := by
  unfold ixN at h
  split at h
  · split at h
    · cases h
      omega
    · cases h
  · split at h
    · cases h
      omega
    · cases h
theorem Dens.atI {G : Hp} {vs : List V} {ds : List Dt} (h : Dens K G vs ds) {i : Int} {d : Dt} (e : L2.atI ds i = some d) : ∃ v, L2.atI vs i = some v ∧ Den K G v d := by
  unfold L2.atI at e ⊢
  rw [h.len]
  cases q : ixN ds.length i with
  | none => rw [q] at e; cases e
  | some k =>
    rw [q] at e
    exact h.get e
theorem opd_ixL {d : Dt} (h : atI xs i = some d) : OpD K (rIxL K) (.lst xs) (.int i) (· = d) := fun v w G F R H s hv hw Q q => by
  cases hw
  cases hv with
  | lst ha hs =>
    obtain ⟨z, hz, dz⟩ := hs.atI h
    exact ⟨_, _, i, z, rfl, rfl, s.lstH ha, hz, q z d G H (Evl.Ex.refl _) s dz rfl⟩
theorem opd_ixT {d : Dt} (h : atI xs i = some d) : OpD K (rIxT K) (.tup xs) (.int i) (· = d) := fun v w G F R H s hv hw Q q => by
  cases hw
  cases hv with
  | tup ha hs =>
    obtain ⟨z, hz, dz⟩ := hs.atI h
    exact ⟨_, _, i, z, rfl, rfl, s.tupH ha, hz, q z d G H (Evl.Ex.refl _) s dz rfl⟩
/-- items of a list or a tuple -/
def seqD : Dt → Option (List Dt)
  | .lst xs => some xs
  | .tup xs => some xs
  | _ => none
theorem opd_ix {d : Dt} (hs : seqD x = some xs) (h : atI xs i = some d) : OpD K (rIx K) x (.int i) (· = d) := fun v w G F R H s hv hw Q q => by
  cases x with
  | lst zs => cases hs; exact Or.inl (opd_ixL h v w G F R H s hv hw Q q)
  | tup zs => cases hs; exact Or.inr (Or.inl (opd_ixT h v w G F R H s hv hw Q q))
  | _ => cases hs
/-- len -/
def rLenQ (K : PySem.W.Frag) : List V → Hp → VK → Prop := fun xs H Q => ∃ p ys, xs = [.ref p] ∧ (SqL K H p ys ∨ SqT K H p ys) ∧ Q (.int ys.length) H
theorem call_lenQ {X : Cx} : CallR X (.builtin "len") (rLenQ X.K) := call_len_seq
theorem cd_len (hs : seqD x = some xs) : CallD K (rLenQ K) [x] (· = .int (xs.length : Int)) := fun vs G F R H s hv Q q => by
  cases hv with
  | cons hx hn =>
    cases hn
    cases hx with
    | lst ha hd => cases hs; exact ⟨_, _, rfl, .inl (s.lstH ha), q _ _ G H (Evl.Ex.refl _) s (by rw [hd.len]; exact .int _) rfl⟩
    | tup ha hd => cases hs; exact ⟨_, _, rfl, .inr (s.tupH ha), q _ _ G H (Evl.Ex.refl _) s (by rw [hd.len]; exact .int _) rfl⟩
    | _ => cases hs
/-- list(x), tuple(x) -/
def rListQ (K : PySem.W.Frag) : List V → Hp → VK → Prop := fun xs H Q => ∃ p ys, xs = [.ref p] ∧ (SqL K H p ys ∨ SqT K H p ys) ∧ ∀ l, H l = none → Q (.ref l) (upd H l (.lst ys))
theorem call_listQ {X : Cx} : CallR X (.type "list") (rListQ X.K) := call_list_of
theorem cd_list (hs : seqD x = some xs) : CallD K (rListQ K) [x] (· = .lst xs) := fun vs G F R H s hv Q q => by
  cases hv with
  | cons hx hn =>
    cases hn
    cases hx with
    | lst ha hd => cases hs; exact ⟨_, _, rfl, .inl (s.lstH ha), fun l hl => q _ _ _ _ (Ex.new1 s hl) (s.new hl) (.lst upd_same (hd.mono (Ex.new1 s hl))) rfl⟩
    | tup ha hd => cases hs; exact ⟨_, _, rfl, .inr (s.tupH ha), fun l hl => q _ _ _ _ (Ex.new1 s hl) (s.new hl) (.lst upd_same (hd.mono (Ex.new1 s hl))) rfl⟩
    | _ => cases hs
def rTupleQ (K : PySem.W.Frag) : List V → Hp → VK → Prop := fun xs H Q => ∃ p ys, xs = [.ref p] ∧ ((SqL K H p ys ∧ ∀ l, H l = none → Q (.ref l) (upd H l (.tup ys))) ∨ (SqT K H p ys ∧ Q (.ref p) H))
theorem call_tupleQ {X : Cx} : CallR X (.type "tuple") (rTupleQ X.K) := call_tuple_of
theorem cd_tuple (hs : seqD x = some xs) : CallD K (rTupleQ K) [x] (· = .tup xs) := fun vs G F R H s hv Q q => by
  cases hv with
  | cons hx hn =>
    cases hn
    cases hx with
    | lst ha hd => cases hs; exact ⟨_, _, rfl, .inl ⟨s.lstH ha, fun l hl => q _ _ _ _ (Ex.new1 s hl) (s.new hl) (.tup upd_same (hd.mono (Ex.new1 s hl))) rfl⟩⟩
    | tup ha hd => cases hs; exact ⟨_, _, rfl, .inr ⟨s.tupH ha, q _ _ _ _ (Evl.Ex.refl _) s (.tup ha hd) rfl⟩⟩
    | _ => cases hs
/-! all, any, sum, max, min, abs -/
theorem cd_all {bs : List Bool} : CallD K (rAll K) [.lst (bs.map Dt.bl)] (· = .bl (bs.all id)) := fun vs G F R H s hv Q q => by
  cases hv with
  | cons hx hn =>
    cases hn
    cases hx with
    | lst ha hd =>
      have e := hd.bls
      subst e
      exact ⟨_, bs, rfl, s.lstH ha, q _ _ G H (Evl.Ex.refl _) s (.bl _) rfl⟩
theorem cd_any {bs : List Bool} : CallD K (rAny K) [.lst (bs.map Dt.bl)] (· = .bl (bs.any id)) := fun vs G F R H s hv Q q => by
  cases hv with
  | cons hx hn =>
    cases hn
    cases hx with
    | lst ha hd =>
      have e := hd.bls
      subst e
      exact ⟨_, bs, rfl, s.lstH ha, q _ _ G H (Evl.Ex.refl _) s (.bl _) rfl⟩
theorem cd_sum {ns : List Int} : CallD K (rSum K) [.lst (ns.map Dt.int)] (· = .int ns.sum) := fun vs G F R H s hv Q q => by
  cases hv with
  | cons hx hn =>
    cases hn
    cases hx with
    | lst ha hd =>
      have e := hd.ints
      subst e
      exact ⟨_, ns, rfl, s.lstH ha, q _ _ G H (Evl.Ex.refl _) s (.int _) rfl⟩
theorem cd_max {ns : List Int} (h0 : ns ≠ []) : CallD K (rMax K) [.lst (ns.map Dt.int)] (fun d => ∃ m, d = .int m ∧ m ∈ ns ∧ ∀ y ∈ ns, y ≤ m) := fun vs G F R H s hv Q q => by
  cases hv with
  | cons hx hn =>
    cases hn
    cases hx with
    | lst ha hd =>
      have e := hd.ints
      subst e
      exact ⟨_, ns, rfl, s.lstH ha, List.length_pos_iff.mpr h0, fun m h1 h2 => q _ _ G H (Evl.Ex.refl _) s (.int _) ⟨m, rfl, h1, h2⟩⟩
theorem cd_min {ns : List Int} (h0 : ns ≠ []) : CallD K (rMin K) [.lst (ns.map Dt.int)] (fun d => ∃ m, d = .int m ∧ m ∈ ns ∧ ∀ y ∈ ns, m ≤ y) := fun vs G F R H s hv Q q => by
  cases hv with
  | cons hx hn =>
    cases hn
    cases hx with
    | lst ha hd =>
      have e := hd.ints
      subst e
      exact ⟨_, ns, rfl, s.lstH ha, List.length_pos_iff.mpr h0, fun m h1 h2 => q _ _ G H (Evl.Ex.refl _) s (.int _) ⟨m, rfl, h1, h2⟩⟩
def rMin2 : List V → Hp → VK → Prop := fun xs H Q => ∃ i j, xs = [.int i, .int j] ∧ Q (.int (if j < i then j else i)) H
def rMax2 : List V → Hp → VK → Prop := fun xs H Q => ∃ i j, xs = [.int i, .int j] ∧ Q (.int (if j > i then j else i)) H
theorem call_min2Q {X : Cx} (hc : X.calm = true) : CallR X (.builtin "min") rMin2 := call_min2 hc
theorem call_max2Q {X : Cx} (hc : X.calm = true) : CallR X (.builtin "max") rMax2 := call_max2 hc
theorem cd_min2 : CallD K rMin2 [.int i, .int j] (· = .int (min i j)) := fun vs G F R H s hv Q q => by
  cases hv with
  | cons h1 h2 =>
    cases h2 with
    | cons h2 h3 =>
      cases h1
      cases h2
      cases h3
      refine ⟨i, j, rfl, q _ _ G H (Evl.Ex.refl _) s ?_ rfl⟩
      have e : (if j < i then j else i) = min i j := by
        rw [Int.min_def]
        split <;> split <;> omega
      rw [e]
      exact .int _
theorem cd_max2 : CallD K rMax2 [.int i, .int j] (· = .int (max i j)) := fun vs G F R H s hv Q q => by
  cases hv with
  | cons h1 h2 =>
    cases h2 with
    | cons h2 h3 =>
      cases h1
      cases h2
      cases h3
      refine ⟨i, j, rfl, q _ _ G H (Evl.Ex.refl _) s ?_ rfl⟩
      have e : (if j > i then j else i) = max i j := by
        rw [Int.max_def]
        split <;> split <;> omega
      rw [e]
      exact .int _
def rAbs : List V → Hp → VK → Prop := fun xs H Q => ∃ i, xs = [.int i] ∧ Q (.int (if i < 0 then -i else i)) H
theorem call_absQ {X : Cx} : CallR X (.builtin "abs") rAbs := call_abs
theorem cd_abs : CallD K rAbs [.int i] (· = .int (i.natAbs : Int)) := fun vs G F R H s hv Q q => by
  cases hv with
  | cons h1 h2 =>
    cases h1
    cases h2
    refine ⟨i, rfl, q _ _ G H (Evl.Ex.refl _) s ?_ rfl⟩
    have e : (if i < 0 then -i else i) = (i.natAbs : Int) := by
      split <;> omega
    rw [e]
    exact .int _
def rInt1 : List V → Hp → VK → Prop := fun xs H Q => (∃ i, xs = [.int i] ∧ Q (.int i) H) ∨ ∃ k, xs = [.bl k] ∧ Q (.int (if k then 1 else 0)) H
theorem call_int1Q {X : Cx} : CallR X (.type "int") rInt1 := call_int1
theorem cd_intB {b : Bool} : CallD K rInt1 [.bl b] (· = .int (if b then 1 else 0)) := fun vs G F R H s hv Q q => by
  cases hv with
  | cons h1 h2 =>
    cases h1
    cases h2
    exact .inr ⟨b, rfl, q _ _ G H (Evl.Ex.refl _) s (.int _) rfl⟩
def rStrI : List V → Hp → VK → Prop := fun xs H Q => ∃ i, xs = [.int i] ∧ i.natAbs.log2 < 1920 ∧ Q (.str (toString i)) H
theorem call_strI {X : Cx} : CallR X (.type "str") rStrI := call_str_int
theorem cd_strI (h : i.natAbs.log2 < 1920) : CallD K rStrI [.int i] (· = .str (toString i)) := fun vs G F R H s hv Q q => by
  cases hv with
  | cons h1 h2 =>
    cases h1
    cases h2
    exact ⟨i, rfl, h, q _ _ G H (Evl.Ex.refl _) s (.str _) rfl⟩
/-! isinstance -/
def tyN : Dt → String
  | .non => "NoneType"
  | .bl _ => "bool"
  | .int _ => "int"
  | .str _ => "str"
  | .lst _ => "list"
  | .tup _ => "tuple"
  | .dic => "dict"
  | .ptr _ => "?"
  | .cls _ => "?"
  | .scr _ => "?"
def plainD : Dt → Bool
  | .ptr _ => false
  | .cls _ => false
  | .scr _ => false
  | _ => true
theorem Den.ty {G R F H : Hp} {v : V} (s : Sp3 G R F H) (h : Den K G v x) (hp : plainD x = true) : TyX K H v (.type (tyN x)) := by
  cases h with
  | non => exact .base .non
  | bl b => exact .base (.bl b)
  | int i => exact .base (.int i)
  | str z => exact .base (.str z)
  | lst ha _ => exact .base (.lst (s.g _ _ ha))
  | tup ha _ => exact .base (.tup (s.g _ _ ha))
  | dic ha => exact .base (.dK (s.g _ _ ha))
  | ptr a => cases hp
  | cls w => cases hp
  | scr h => cases hp
theorem cd_isi {T : String} {b : Bool} (hp : plainD x = true) (hk : kitB (tyN x) T = some b) : CallD K (rIsi K) [x, .cls (.ty T)] (· = .bl b) := fun vs G F R H s hv Q q => by
  cases hv with
  | cons h1 h2 =>
    cases h2 with
    | cons h2 h3 =>
      cases h3
      cases h2
      exact ⟨_, _, _, _, b, rfl, .ty T, h1.ty s hp, kit_ty hk, q _ _ G H (Evl.Ex.refl _) s (.bl b) rfl⟩
/-- isinstance(x, (S, T)) -/
theorem cd_isiT {S T : String} {b c : Bool} (hp : plainD x = true) (h1 : kitB (tyN x) S = some b) (h2 : kitB (tyN x) T = some c) : CallD K (rIsiT K) [x, .tup [.cls (.ty S), .cls (.ty T)]] (· = .bl (b || c)) := fun vs G F R H s hv Q q => by
  cases hv with
  | cons hx hv =>
    cases hv with
    | cons ht hn =>
      cases hn
      cases ht with
      | tup ha hs =>
        cases hs with
        | cons k1 hs =>
          cases hs with
          | cons k2 hn =>
            cases hn
            cases k1
            cases k2
            refine ⟨_, _, _, _, [.type S, .type T], b || c, rfl, s.g _ _ ha, .cons (.ty S) (.cons (.ty T) .nil), hx.ty s hp, ?_, q _ _ G H (Evl.Ex.refl _) s (.bl _) rfl⟩
            refine kitAny_cons (kit_ty h1) (fun e => ?_) (fun e => by rw [e]; rfl)
            rw [e, Bool.false_or]
            refine kitAny_cons (kit_ty h2) (fun e => ?_) (fun e => e)
            rw [e]
            exact kitAny_nil
/-! + and * of lists and tuples, slices -/
theorem opd_cat (h : xs.length + ys.length ≤ sizeLine) : OpD K rCat (.lst xs) (.lst ys) (· = .lst (xs ++ ys)) := fun v w G F R H s hv hw Q q => by
  cases hv with
  | lst ha hx =>
    cases hw with
    | lst hb hy =>
      exact ⟨_, _, _, _, rfl, rfl, s.g _ _ ha, s.g _ _ hb, by rw [hx.len, hy.len]; exact h, fun p hp => q _ _ _ _ (Ex.new1 s hp) (s.new hp) (.lst upd_same ((hx.app hy).mono (Ex.new1 s hp))) rfl⟩
theorem opd_catT (h : xs.length + ys.length ≤ sizeLine) : OpD K (rCatA K) (.tup xs) (.tup ys) (· = .tup (xs ++ ys)) := fun v w G F R H s hv hw Q q => by
  cases hv with
  | @tup a us _ ha hx =>
    cases hw with
    | @tup b ws _ hb hy =>
      refine ⟨_, _, _, _, rfl, rfl, s.tupH ha, s.tupH hb, by rw [hx.len, hy.len]; exact h, fun e => ?_, fun e e2 => ?_, fun _ _ p hp => q _ _ _ _ (Ex.new1 s hp) (s.new hp) (.tup upd_same ((hx.app hy).mono (Ex.new1 s hp))) rfl⟩
      · subst e
        cases hx
        exact q _ _ G H (Evl.Ex.refl _) s (.tup hb hy) rfl
      · subst e2
        cases hy
        rw [List.append_nil] at q
        exact q _ _ G H (Evl.Ex.refl _) s (.tup ha hx) rfl
theorem opd_rep (h0 : -(2 ^ 63) ≤ i) (h1 : i < 2 ^ 63) (h : xs.length * i.toNat ≤ sizeLine) : OpD K rRep (.lst xs) (.int i) (· = .lst (List.replicate i.toNat xs).flatten) := fun v w G F R H s hv hw Q q => by
  cases hv with
  | lst ha hx =>
    cases hw
    exact ⟨_, i, _, rfl, rfl, s.g _ _ ha, h0, h1, by rw [hx.len]; exact h, fun p hp => q _ _ _ _ (Ex.new1 s hp) (s.new hp) (.lst upd_same ((hx.rep _).mono (Ex.new1 s hp))) rfl⟩
theorem opd_repT (hn : xs ≠ []) (h0 : 2 ≤ i) (h1 : i ≤ 1000) (h : xs.length ≤ 1000) : OpD K (rRepT K) (.tup xs) (.int i) (· = .tup (List.replicate i.toNat xs).flatten) := fun v w G F R H s hv hw Q q => by
  cases hv with
  | tup ha hx =>
    cases hw
    refine ⟨_, i, _, rfl, rfl, s.tupH ha, fun e => ?_, h0, h1, by rw [hx.len]; exact h, fun p hp => q _ _ _ _ (Ex.new1 s hp) (s.new hp) (.tup upd_same ((hx.rep _).mono (Ex.new1 s hp))) rfl⟩
    subst e
    cases hx
    exact hn rfl
def cutD (xs : List Dt) (lo hi : Option Int) : List Dt := (xs.drop (HT.sIx xs.length 0 lo)).take (HT.sIx xs.length xs.length hi - HT.sIx xs.length 0 lo)
theorem Dens.cut {G : Hp} {vs : List V} {lo hi : Option Int} (h : Dens K G vs xs) : Dens K G (cutV vs lo hi) (cutD xs lo hi) := by
  unfold cutV cutD
  rw [h.len]
  exact (h.drop _).take _
theorem sld_tup {lo hi : Option Int} : SlD K (rSlA K) (.tup xs) lo hi (· = .tup (cutD xs lo hi)) := fun v G F R H s hv Q q => by
  cases hv with
  | @tup a us _ ha hx =>
    refine ⟨_, _, rfl, s.tupH ha, fun e => ?_, fun _ p hp => q _ _ _ _ (Ex.new1 s hp) (s.new hp) (.tup upd_same (hx.cut.mono (Ex.new1 s hp))) rfl⟩
    have e2 : cutD xs lo hi = xs := by
      unfold cutD
      rw [← hx.len, e.1, e.2, Nat.sub_zero, hx.len]
      exact List.take_length
    rw [e2] at q
    exact q _ _ G H (Evl.Ex.refl _) s (.tup ha hx) rfl
theorem sld_lst {lo hi : Option Int} : SlD K (rSlL K) (.lst xs) lo hi (· = .lst (cutD xs lo hi)) := fun v G F R H s hv Q q => by
  cases hv with
  | @lst a us _ ha hx =>
    exact ⟨_, _, rfl, s.lstH ha, fun p hp => q _ _ _ _ (Ex.new1 s hp) (s.new hp) (.lst upd_same (hx.cut.mono (Ex.new1 s hp))) rfl⟩
end
end Fw
set_option Elab.async false
set_option linter.all false
set_option maxRecDepth 100000
set_option maxHeartbeats 4000000
namespace Fw
open PySem PySem.Spec PyProof.Rows L2
open Evl (Ex)
inductive All2 {α β : Type} (S : α → β → Prop) : List α → List β → Prop
  | nil : All2 S [] []
  | cons {a : α} {b : β} {as : List α} {bs : List β} : S a b → All2 S as bs → All2 S (a :: as) (b :: bs)
theorem All2.len {α β : Type} {S : α → β → Prop} {as : List α} {bs : List β} (h : All2 S as bs) : as.length = bs.length := by
  induction h with
  | nil => rfl
  | cons _ _ ih => rw [List.length_cons, List.length_cons, ih]
theorem All2.snoc {α β : Type} {S : α → β → Prop} {as : List α} {bs : List β} {a : α} {b : β} (h : All2 S as bs) (e : S a b) : All2 S (as ++ [a]) (bs ++ [b]) := by
  induction h with
  | nil => exact .cons e .nil
  | cons x _ ih => exact .cons x ih
theorem All2.fn {α β : Type} {S : α → β → Prop} {f : α → β} {as : List α} {bs : List β} (h : All2 S as bs) (hf : ∀ a b, a ∈ as → S a b → b = f a) : bs = as.map f := by
  induction h with
  | nil => rfl
  | cons x _ ih => rw [List.map_cons, ← hf _ _ List.mem_cons_self x, ← ih fun a b ha => hf a b (List.mem_cons_of_mem _ ha)]
theorem All2.mem {α β : Type} {S : α → β → Prop} {as : List α} {bs : List β} (h : All2 S as bs) : ∀ b ∈ bs, ∃ a ∈ as, S a b := by
  induction h with
  | nil => intro b hb; cases hb
  | cons x _ ih =>
    intro b hb
    rcases List.mem_cons.mp hb with e | e
    · subst e
      exact ⟨_, List.mem_cons_self, x⟩
    · obtain ⟨a, ha, hs⟩ := ih b e
      exact ⟨a, List.mem_cons_of_mem _ ha, hs⟩
/-! ### what is walked -/
structure ItD (K : PySem.W.Frag) (J : It) (its : List Dt) (G : Hp) : Prop where
  go : ∀ i G1 R F H, Ex G G1 → Sp3 G1 R F H → i < its.length → J.go i H
  yld : ∀ i G1 R F H d, Ex G G1 → Sp3 G1 R F H → its[i]? = some d → ∀ x H', J.yld i H x H' → ∃ G2, Ex G1 G2 ∧ Sp3 G2 R F H' ∧ Den K G2 x d
  stop : ∀ i G1 R F H, Ex G G1 → Sp3 G1 R F H → i = its.length → J.stop i H
def EvI (K : PySem.W.Frag) (I : Res) (c : Nat) (wi : TI) (Δ : Sl) (P : List Dt → Prop) : Prop :=
  ∀ m σ G F R H, m + c ≤ BIG → EnvD K G σ Δ → I.p m R → Sp3 G R F H → ∀ Rr : It → Hp → Prop, (∀ J its G' R' H', Ex G G' → I.p (m + c) R' → Sp3 G' R' F H' → ItD K J its G' → P its → Rr J H') → wi σ H Rr
section
variable {K : PySem.W.Frag} {I : Res} {Δ : Sl} {ta tb tc te : TE} {t u : TT} {P P1 P2 P3 : Dt → Prop} {B B1 B2 : Bool → Prop} {Ps : List Dt → Prop}
theorem itd_list {G : Hp} {a : Addr} {vs : List V} {ds : List Dt} (h : G a = some (.lst vs)) (hd : Dens K G vs ds) : ItD K (Itl K a) ds G := by
  refine ⟨fun i G1 R F H e s hi => ?_, fun i G1 R F H d e s hi x H' y => ?_, fun i G1 R F H e s hi => ?_⟩
  · obtain ⟨v, hv, _⟩ := hd.get (List.getElem?_eq_getElem hi)
    exact ⟨vs, v, s.lstH (e _ _ h), hv⟩
  · obtain ⟨rfl, hy⟩ := y
    obtain ⟨v, hv, dv⟩ := hd.get hi
    have e2 := hy vs (s.lstH (e _ _ h))
    rw [hv] at e2
    cases e2
    exact ⟨G1, Evl.Ex.refl _, s, dv.mono e⟩
  · exact ⟨vs, s.lstH (e _ _ h), by rw [hd.len]; omega⟩
theorem itd_tup {G : Hp} {a : Addr} {vs : List V} {ds : List Dt} (h : G a = some (.tup vs)) (hd : Dens K G vs ds) : ItD K (Itt K a) ds G := by
  refine ⟨fun i G1 R F H e s hi => ?_, fun i G1 R F H d e s hi x H' y => ?_, fun i G1 R F H e s hi => ?_⟩
  · obtain ⟨v, hv, _⟩ := hd.get (List.getElem?_eq_getElem hi)
    exact ⟨vs, v, s.tupH (e _ _ h), hv⟩
  · obtain ⟨rfl, hy⟩ := y
    obtain ⟨v, hv, dv⟩ := hd.get hi
    have e2 := hy vs (s.tupH (e _ _ h))
    rw [hv] at e2
    cases e2
    exact ⟨G1, Evl.Ex.refl _, s, dv.mono e⟩
  · exact ⟨vs, s.tupH (e _ _ h), by rw [hd.len]; omega⟩
def rngD (lo : Int) (n : Nat) : List Dt := (List.range n).map fun k => Dt.int (lo + (k : Nat))
theorem rngD_len (lo : Int) (n : Nat) : (rngD lo n).length = n := by unfold rngD; rw [List.length_map, List.length_range]
theorem itd_rng {G : Hp} {lo : Int} {n : Nat} : ItD K (Itr lo n) (rngD lo n) G := by
  refine ⟨fun i G1 R F H e s hi => ?_, fun i G1 R F H d e s hi x H' y => ?_, fun i G1 R F H e s hi => ?_⟩
  · rw [rngD_len] at hi
    exact hi
  · obtain ⟨rfl, rfl⟩ := y
    unfold rngD at hi
    rw [List.getElem?_map] at hi
    obtain ⟨k, e1, e2⟩ := Option.map_eq_some_iff.mp hi
    have e3 : k = i := by
      have hl := (List.getElem?_eq_some_iff.mp e1).1
      rw [List.length_range] at hl
      rw [List.getElem?_range hl] at e1
      exact (Option.some.inj e1).symm
    subst e3
    subst e2
    exact ⟨G1, Evl.Ex.refl _, s, .int _⟩
  · rw [rngD_len] at hi
    exact Nat.le_of_eq hi.symm
theorem ei_list {c : Nat} (h : Ev K I c te Δ P) (hp : ∀ d, P d → ∃ xs, d = .lst xs ∧ Ps xs) : EvI K I c (iList K te) Δ Ps := fun m σ G F R H mb e i s Q q =>
  h m σ G F R H mb e i s _ fun v d G1 R1 H1 e1 i1 s1 d1 p1 => by
    obtain ⟨xs, rfl, hP⟩ := hp d p1
    cases d1 with
    | lst ha hd => exact ⟨_, rfl, ⟨_, s1.lstH ha⟩, q _ xs G1 R1 H1 e1 i1 s1 (itd_list ha hd) hP⟩
theorem ei_tup {c : Nat} (h : Ev K I c te Δ P) (hp : ∀ d, P d → ∃ xs, d = .tup xs ∧ Ps xs) : EvI K I c (iTup K te) Δ Ps := fun m σ G F R H mb e i s Q q =>
  h m σ G F R H mb e i s _ fun v d G1 R1 H1 e1 i1 s1 d1 p1 => by
    obtain ⟨xs, rfl, hP⟩ := hp d p1
    cases d1 with
    | tup ha hd => exact ⟨_, rfl, ⟨_, s1.tupH ha⟩, q _ xs G1 R1 H1 e1 i1 s1 (itd_tup ha hd) hP⟩
theorem ei_rng1 {c : Nat} {tr : TA} {Qs : List Dt → Prop} (h : EvA K I c tr Δ Qs) (hp : ∀ ds, Qs ds → ∃ n : Int, ds = [.int n] ∧ -(2 ^ 62) ≤ n ∧ n < 2 ^ 62 ∧ Ps (rngD 0 n.toNat)) : EvI K I c (iRng1 tr) Δ Ps := fun m σ G F R H mb e i s Q q =>
  h m σ G F R H mb e i s _ fun vs ds G1 R1 H1 e1 i1 s1 d1 p1 => by
    obtain ⟨n, rfl, h1, h2, hP⟩ := hp ds p1
    cases d1 with
    | cons dn dnil =>
      cases dnil
      cases dn
      exact ⟨n, rfl, h1, h2, q _ _ G1 R1 H1 e1 i1 s1 itd_rng hP⟩
theorem ei_rng2 {c : Nat} {tr : TA} {Qs : List Dt → Prop} (h : EvA K I c tr Δ Qs) (hp : ∀ ds, Qs ds → ∃ m n : Int, ds = [.int m, .int n] ∧ (-(2 ^ 62) ≤ m ∧ m < 2 ^ 62 ∧ -(2 ^ 62) ≤ n ∧ n < 2 ^ 62) ∧ Ps (rngD m (n - m).toNat)) : EvI K I c (iRng2 tr) Δ Ps := fun m σ G F R H mb e i s Q q =>
  h m σ G F R H mb e i s _ fun vs ds G1 R1 H1 e1 i1 s1 d1 p1 => by
    obtain ⟨m, n, rfl, h1, hP⟩ := hp ds p1
    cases d1 with
    | cons dm dn =>
      cases dn with
      | cons dn dnil =>
        cases dnil
        cases dn
        cases dm
        exact ⟨m, n, rfl, h1, q _ _ G1 R1 H1 e1 i1 s1 itd_rng hP⟩
/-! pairs -/
def zipD : List Dt → List Dt → List Dt
  | x :: xs, y :: ys => .tup [x, y] :: zipD xs ys
  | _, _ => []
theorem zipD_len : ∀ xs ys : List Dt, (zipD xs ys).length = min xs.length ys.length
  | [], _ => by simp [zipD]
  | _ :: _, [] => by simp [zipD]
  | x :: xs, y :: ys => by
    show (zipD xs ys).length + 1 = min (xs.length + 1) (ys.length + 1)
    rw [zipD_len xs ys]
    omega
theorem zipD_get : ∀ {xs ys : List Dt} {i : Nat} {d : Dt}, (zipD xs ys)[i]? = some d → ∃ x y, xs[i]? = some x ∧ ys[i]? = some y ∧ d = .tup [x, y]
  | [], _, _, _, h => by simp [zipD] at h
  | _ :: _, [], _, _, h => by simp [zipD] at h
  | x :: xs, y :: ys, 0, d, h => ⟨x, y, rfl, rfl, (Option.some.inj h).symm⟩
  | x :: xs, y :: ys, i + 1, d, h => zipD_get (xs := xs) (ys := ys) (i := i) h
theorem itd_zipT {G : Hp} {a b : Addr} {vs ws : List V} {xs ys : List Dt} (ha : G a = some (.tup vs)) (hb : G b = some (.tup ws)) (dx : Dens K G vs xs) (dy : Dens K G ws ys) : ItD K (RZ.ItzT K a b) (zipD xs ys) G := by
  refine ⟨fun i G1 R F H e s hi => ?_, fun i G1 R F H d e s hi x H' y => ?_, fun i G1 R F H e s hi => ?_⟩
  · rw [zipD_len] at hi
    obtain ⟨v, hv, _⟩ := dx.get (List.getElem?_eq_getElem (show i < xs.length by omega))
    obtain ⟨w, hw, _⟩ := dy.get (List.getElem?_eq_getElem (show i < ys.length by omega))
    exact ⟨vs, ws, v, w, s.tupH (e _ _ ha), s.tupH (e _ _ hb), hv, hw⟩
  · obtain ⟨T, p, q, rfl, nT, rfl, f1, f2⟩ := y
    obtain ⟨c1, c2, e1, e2, rfl⟩ := zipD_get hi
    obtain ⟨v, hv, dv⟩ := dx.get e1
    obtain ⟨w, hw, dw⟩ := dy.get e2
    have z1 := f1 vs (s.tupH (e _ _ ha))
    have z2 := f2 ws (s.tupH (e _ _ hb))
    rw [hv] at z1
    rw [hw] at z2
    cases z1
    cases z2
    exact ⟨_, Ex.new1 s nT, s.new nT, .tup upd_same (.cons ((dv.mono e).mono (Ex.new1 s nT)) (.cons ((dw.mono e).mono (Ex.new1 s nT)) .nil))⟩
  · rw [zipD_len] at hi
    refine ⟨vs, ws, s.tupH (e _ _ ha), s.tupH (e _ _ hb), ?_⟩
    rw [dx.len, dy.len]
    omega
theorem itd_zipL {G : Hp} {a b : Addr} {vs ws : List V} {xs ys : List Dt} (ha : G a = some (.lst vs)) (hb : G b = some (.lst ws)) (dx : Dens K G vs xs) (dy : Dens K G ws ys) : ItD K (Itz K a b) (zipD xs ys) G := by
  refine ⟨fun i G1 R F H e s hi => ?_, fun i G1 R F H d e s hi x H' y => ?_, fun i G1 R F H e s hi => ?_⟩
  · rw [zipD_len] at hi
    obtain ⟨v, hv, _⟩ := dx.get (List.getElem?_eq_getElem (show i < xs.length by omega))
    obtain ⟨w, hw, _⟩ := dy.get (List.getElem?_eq_getElem (show i < ys.length by omega))
    exact ⟨vs, ws, v, w, s.lstH (e _ _ ha), s.lstH (e _ _ hb), hv, hw⟩
  · obtain ⟨T, p, q, rfl, nT, rfl, f1, f2⟩ := y
    obtain ⟨c1, c2, e1, e2, rfl⟩ := zipD_get hi
    obtain ⟨v, hv, dv⟩ := dx.get e1
    obtain ⟨w, hw, dw⟩ := dy.get e2
    have z1 := f1 vs (s.lstH (e _ _ ha))
    have z2 := f2 ws (s.lstH (e _ _ hb))
    rw [hv] at z1
    rw [hw] at z2
    cases z1
    cases z2
    exact ⟨_, Ex.new1 s nT, s.new nT, .tup upd_same (.cons ((dv.mono e).mono (Ex.new1 s nT)) (.cons ((dw.mono e).mono (Ex.new1 s nT)) .nil))⟩
  · rw [zipD_len] at hi
    refine ⟨vs, ws, s.lstH (e _ _ ha), s.lstH (e _ _ hb), ?_⟩
    rw [dx.len, dy.len]
    omega
theorem ei_zip {c : Nat} {tr : TA} {Qs : List Dt → Prop} (h : EvA K I c tr Δ Qs) (hp : ∀ ds, Qs ds → ∃ xs ys, (ds = [.tup xs, .tup ys] ∨ ds = [.lst xs, .lst ys]) ∧ Ps (zipD xs ys)) : EvI K I c (RZ.iZipA K tr) Δ Ps := fun m σ G F R H mb e i s Q q =>
  h m σ G F R H mb e i s _ fun vs ds G1 R1 H1 e1 i1 s1 d1 p1 => by
    obtain ⟨xs, ys, hds, hP⟩ := hp ds p1
    rcases hds with rfl | rfl
    · cases d1 with
      | cons da db =>
        cases db with
        | cons db dnil =>
          cases dnil
          cases da with
          | tup ha dx =>
            cases db with
            | tup hb dy => exact ⟨_, _, _, _, rfl, .inr ⟨s1.tupH ha, s1.tupH hb, q _ _ G1 R1 H1 e1 i1 s1 (itd_zipT ha hb dx dy) hP⟩⟩
    · cases d1 with
      | cons da db =>
        cases db with
        | cons db dnil =>
          cases dnil
          cases da with
          | lst ha dx =>
            cases db with
            | lst hb dy => exact ⟨_, _, _, _, rfl, .inl ⟨s1.lstH ha, s1.lstH hb, q _ _ G1 R1 H1 e1 i1 s1 (itd_zipL ha hb dx dy) hP⟩⟩
/-! ### targets -/
def GD (K : PySem.W.Frag) (g : TG) (js : List Nat) (d : Dt) (f : Sl → Sl) : Prop :=
  ∀ σ Δ G R F H v, EnvD K G σ Δ → Sp3 G R F H → Den K G v d → ∀ Q : L2.St → Hp → Prop, (∀ σ', EnvD K G σ' (f Δ) → (∀ vs, (∀ j ∈ js, j ∈ vs) → wipe σ' vs = wipe σ vs) → Q σ' H) → g v σ H Q
theorem gd_name {j : Nat} {d : Dt} : GD K (gName j) [j] d (fun Δ => Δ.set j (some d)) := fun σ Δ G R F H v e s hd Q q =>
  q _ (e.set hd) fun vs hv => wipe_set_mem (hv j List.mem_cons_self)
theorem gd_pair {j k : Nat} {x y : Dt} : GD K (gTup K 2 (gCons (gName j) (gCons (gName k) gNil))) [j, k] (.tup [x, y]) (fun Δ => (Δ.set j (some x)).set k (some y)) := fun σ Δ G R F H v e s hd Q q => by
  cases hd with
  | tup ha hs =>
    cases hs with
    | cons hx hs =>
      cases hs with
      | cons hy hn =>
        cases hn
        refine ⟨_, _, rfl, s.tupH ha, rfl, _, _, rfl, _, _, rfl, rfl, q _ ((e.set hx).set hy) fun vs hv => ?_⟩
        rw [wipe_set_mem (hv k (List.mem_cons_of_mem _ List.mem_cons_self)), wipe_set_mem (hv j List.mem_cons_self)]
/-! ### list comprehensions -/
theorem ev_lc {c0 ct ce n : Nat} {wi : TI} {g : TG} {tt : TT} {vs js : List Nat} {Pi : List Dt → Prop} (hi : EvI K I c0 wi Δ Pi) (hl : ∀ its, Pi its → its.length ≤ n) (hn : n ≤ sizeLine) (hj : ∀ j ∈ js, j ∈ vs) (f : Dt → Sl → Sl) (St : Dt → Option Dt → Prop)
    (hs : ∀ its d, Pi its → d ∈ its → GD K g js d (f d) ∧ ∃ Bt : Bool → Prop, EvT K I ct tt (f d (wipeD Δ vs)) Bt ∧ (Bt false → St d none) ∧ (Bt true → Ev K I ce te (f d (wipeD Δ vs)) (fun e => St d (some e))))
    (hP : ∀ its os, Pi its → All2 St its os → P (.lst (os.filterMap id))) : Ev K I (c0 + n * (ct + ce)) (tLc wi g tt te vs) Δ P := fun m σ G F R H mb e i s Q q =>
  hi m σ G F R H (by omega) e i s _ fun J its G1 R1 H1 e1 i1 s1 it pi => fun D hD => by
    have hFD : F D = none := Ex.no s1.f hD
    have hln := hl its pi
    have hmul : ∀ k, k ≤ its.length → k * (ct + ce) ≤ n * (ct + ce) := fun k hk => Nat.mul_le_mul_right _ (Nat.le_trans hk hln)
    refine ⟨fun k x H2 => x = its.length - k ∧ k ≤ its.length ∧ ∃ G2 R2 os acc, Ex G1 G2 ∧ I.p (m + c0 + k * (ct + ce)) R2 ∧ Sp3 G2 R2 (upd F D (.lst acc)) H2 ∧ All2 St (its.take k) os ∧ Dens K G2 acc (os.filterMap id),
      ⟨its.length, rfl, Nat.zero_le _, G1, R1, [], [], Evl.Ex.refl _, by rw [Nat.zero_mul]; exact i1, s1.newF hD, .nil, .nil⟩, ?_⟩
    rintro k x H2 ⟨rfl, hk, G2, R2, os, acc, e2, i2, s2, ao, da⟩
    by_cases hlt : k < its.length
    · refine .inr ⟨it.go k G2 R2 _ H2 e2 s2 hlt, fun H3 => ∃ G3 R3 os acc, Ex G1 G3 ∧ I.p (m + c0 + (k + 1) * (ct + ce)) R3 ∧ Sp3 G3 R3 (upd F D (.lst acc)) H3 ∧ All2 St (its.take (k + 1)) os ∧ Dens K G3 acc (os.filterMap id), fun H3 h3 => ?_, fun x H3 y => ?_⟩
      · exact ⟨its.length - (k + 1), by omega, rfl, hlt, h3⟩
      · have hd : its[k]? = some its[k] := List.getElem?_eq_getElem hlt
        have hm : its[k] ∈ its := List.getElem_mem hlt
        have hk1 := hmul (k + 1) hlt
        rw [Nat.succ_mul] at hk1
        obtain ⟨G3, e3, s3, dx⟩ := it.yld k G2 R2 _ H2 _ e2 s2 hd x H3 y
        obtain ⟨gd, Bt, ht, hf, htr⟩ := hs its _ pi hm
        have tk : its.take (k + 1) = its.take k ++ [its[k]] := by rw [List.take_add_one, hd]; rfl
        have env3 : EnvD K G3 (wipe σ vs) (wipeD Δ vs) := (((e.mono e1).mono e2).mono e3).wipe vs
        refine gd (wipe σ vs) (wipeD Δ vs) G3 R2 _ H3 x env3 s3 dx _ fun σ' env' hw => ⟨(hw vs hj).trans (wipe_wipe fun v h => h), ?_⟩
        refine ht _ σ' G3 _ R2 H3 (by omega) env' i2 s3 _ fun b G4 R4 H4 e4 i4 s4 pb => ?_
        cases b with
        | false =>
          show ∃ G3 R3 os acc, _
          refine ⟨G4, R4, os ++ [none], acc, ((e2.trans e3).trans e4), I.mono (by rw [Nat.succ_mul]; omega) i4, s4, ?_, ?_⟩
          · rw [tk]
            exact ao.snoc (hf pb)
          · rw [List.filterMap_append]
            show Dens K G4 acc (os.filterMap id ++ [])
            rw [List.append_nil]
            exact (da.mono e3).mono e4
        | true =>
          show te σ' H4 _
          refine htr pb _ σ' G4 _ R4 H4 (by omega) (env'.mono e4) i4 s4 _ fun y dy G5 R5 H5 e5 i5 s5 d5 p5 => ?_
          have hacc : acc.length < sizeLine := by
            have h1 := da.len
            have h2 := List.length_filterMap_le id os
            have h3 := ao.len
            rw [List.length_take] at h3
            omega
          refine ⟨acc, s5.f D _ upd_same, hacc, G5, R5, os ++ [some dy], acc ++ [y], (((e2.trans e3).trans e4).trans e5), I.mono (by rw [Nat.succ_mul]; omega) i5, s5.setF, ?_, ?_⟩
          · rw [tk]
            exact ao.snoc p5
          · rw [List.filterMap_append]
            exact (((da.mono e3).mono e4).mono e5).app (.cons d5 .nil)
    · have ek : k = its.length := by omega
      subst ek
      refine .inl ⟨it.stop _ G2 R2 _ H2 e2 s2 rfl, ?_⟩
      rw [List.take_length] at ao
      have hk1 := hmul its.length (Nat.le_refl _)
      exact q _ _ _ R2 H2 ((e1.trans e2).trans s2.giveEx) (I.mono (by omega) i2) (s2.give hFD) (.lst upd_same (da.mono s2.giveEx)) (hP its os pi ao)
theorem et_yes : EvT K I 0 tYes Δ (· = true) := fun m σ G F R H mb e i s Q q => q true G R H (Evl.Ex.refl _) i s rfl
end
end Fw
set_option Elab.async false
set_option linter.all false
set_option maxRecDepth 100000
set_option maxHeartbeats 4000000
namespace Fw
open PySem PySem.Spec PyProof.Rows L2
open Evl (Ex)
/-! ### statements -/
def Sv (K : PySem.W.Frag) (I : Res) (c : Nat) (t : TS) (Δ : Sl) (N : Sl → Prop) (Rt : Dt → Prop) : Prop :=
  ∀ m σ G F R H, m + c ≤ BIG → EnvD K G σ Δ → I.p m R → Sp3 G R F H → ∀ D : Ends,
    (∀ Δ' σ' G' R' H', N Δ' → Ex G G' → EnvD K G' σ' Δ' → I.p (m + c) R' → Sp3 G' R' F H' → D.nx σ' H') →
    (∀ v d G' R' H', Ex G G' → I.p (m + c) R' → Sp3 G' R' F H' → Den K G' v d → Rt d → D.rt v H') → t D σ H
section
variable {K : PySem.W.Frag} {I : Res} {Δ : Sl} {ta tb tc te : TE} {t u : TS} {tt : TT} {P P1 P2 P3 : Dt → Prop} {B B1 B2 : Bool → Prop} {Ps : List Dt → Prop} {N N1 : Sl → Prop} {Rt Rt1 : Dt → Prop}
theorem Sv.le {c c' : Nat} (h : Sv K I c t Δ N Rt) (hc : c ≤ c') : Sv K I c' t Δ N Rt := fun m σ G F R H mb e i s D q r =>
  h m σ G F R H (by omega) e i s D (fun Δ' σ' G' R' H' n e' en ii ss => q Δ' σ' G' R' H' n e' en (I.mono (by omega) ii) ss) (fun v d G' R' H' e' ii ss dd p => r v d G' R' H' e' (I.mono (by omega) ii) ss dd p)
theorem Sv.imp {c : Nat} (h : Sv K I c t Δ N Rt) (hn : ∀ x, N x → N1 x) (hr : ∀ x, Rt x → Rt1 x) : Sv K I c t Δ N1 Rt1 := fun m σ G F R H mb e i s D q r =>
  h m σ G F R H mb e i s D (fun Δ' σ' G' R' H' n e' en ii ss => q Δ' σ' G' R' H' (hn _ n) e' en ii ss) (fun v d G' R' H' e' ii ss dd p => r v d G' R' H' e' ii ss dd (hr _ p))
theorem sv_next : Sv K I 0 tNext Δ (· = Δ) Rt := fun m σ G F R H mb e i s D q r => q Δ σ G R H rfl (Evl.Ex.refl _) e i s
theorem sv_ret {c : Nat} (h : Ev K I c te Δ Rt) : Sv K I c (tRet te) Δ N Rt := fun m σ G F R H mb e i s D q r => h m σ G F R H mb e i s _ fun v d G' R' H' e' ii ss dd p => r v d G' R' H' e' ii ss dd p
theorem sv_retN (h : Rt .non) : Sv K I 0 tRetN Δ N Rt := fun m σ G F R H mb e i s D q r => r _ _ G R H (Evl.Ex.refl _) i s .non h
theorem sv_set {c j : Nat} (h : Ev K I c te Δ P) : Sv K I c (tAsg te (gName j)) Δ (fun Δ' => ∃ d, P d ∧ Δ' = Δ.set j (some d)) Rt := fun m σ G F R H mb e i s D q r =>
  h m σ G F R H mb e i s _ fun v d G' R' H' e' ii ss dd p => q _ _ G' R' H' ⟨d, p, rfl⟩ e' ((e.mono e').set dd) ii ss
theorem sv_drop {c : Nat} (h : Ev K I c te Δ P) : Sv K I c (tDrop te) Δ (· = Δ) Rt := fun m σ G F R H mb e i s D q r =>
  h m σ G F R H mb e i s _ fun v d G' R' H' e' ii ss dd p => q _ _ G' R' H' rfl e' (e.mono e') ii ss
theorem sv_par {c j k : Nat} {tr : TA} (h : EvA K I c tr Δ Ps) (h2 : ∀ ds, Ps ds → ∃ x y, ds = [x, y] ∧ N ((Δ.set j (some x)).set k (some y))) : Sv K I c (tPar j k tr) Δ N Rt := fun m σ G F R H mb e i s D q r =>
  h m σ G F R H mb e i s _ fun vs ds G' R' H' e' ii ss dd p => by
    obtain ⟨x, y, rfl, hN⟩ := h2 ds p
    cases dd with
    | cons dx dy =>
      cases dy with
      | cons dy dn =>
        cases dn
        exact ⟨_, _, rfl, q _ _ G' R' H' hN e' (((e.mono e').set dx).set dy) ii ss⟩
theorem sv_asgP {c j k : Nat} (h : Ev K I c te Δ P) (h2 : ∀ d, P d → ∃ x y, d = .tup [x, y] ∧ N ((Δ.set j (some x)).set k (some y))) : Sv K I c (tAsg te (gTup K 2 (gCons (gName j) (gCons (gName k) gNil)))) Δ N Rt := fun m σ G F R H mb e i s D q r =>
  h m σ G F R H mb e i s _ fun v d G' R' H' e' ii ss dd p => by
    obtain ⟨x, y, rfl, hN⟩ := h2 d p
    exact gd_pair σ Δ G' R' F H' v (e.mono e') ss dd _ fun σ' e2 _ => q _ _ G' R' H' hN e' e2 ii ss
theorem sv_seq {c1 c2 : Nat} (h1 : Sv K I c1 t Δ N1 Rt) (h2 : ∀ Δ', N1 Δ' → Sv K I c2 u Δ' N Rt) : Sv K I (c1 + c2) (tSeq t u) Δ N Rt := fun m σ G F R H mb e i s D q r =>
  h1 m σ G F R H (by omega) e i s _ (fun Δ' σ' G' R' H' n e' en ii ss => h2 Δ' n _ σ' G' F R' H' (by omega) en ii ss D (fun Δ'' σ'' G'' R'' H'' n' e'' en' ii' ss' => q Δ'' σ'' G'' R'' H'' n' (e'.trans e'') en' (I.as2 ii') ss')
    (fun v d G'' R'' H'' e'' ii' ss' dd p => r v d G'' R'' H'' (e'.trans e'') (I.as2 ii') ss' dd p)) (fun v d G' R' H' e' ii ss dd p => r v d G' R' H' e' (I.mono (by omega) ii) ss dd p)
theorem sv_if {c1 c2 c3 : Nat} (h1 : EvT K I c1 tt Δ B) (h2 : B true → Sv K I c2 t Δ N Rt) (h3 : B false → Sv K I c3 u Δ N Rt) : Sv K I (c1 + (c2 + c3)) (tIfS tt t u) Δ N Rt := fun m σ G F R H mb e i s D q r =>
  h1 m σ G F R H (by omega) e i s _ fun b G1 R1 H1 e1 i1 s1 p1 => by
    cases b with
    | true =>
      show t D σ H1
      exact h2 p1 _ σ G1 F R1 H1 (by omega) (e.mono e1) i1 s1 D (fun Δ'' σ'' G'' R'' H'' n' e'' en' ii' ss' => q Δ'' σ'' G'' R'' H'' n' (e1.trans e'') en' (I.mono (by omega) ii') ss') (fun v d G'' R'' H'' e'' ii' ss' dd p => r v d G'' R'' H'' (e1.trans e'') (I.mono (by omega) ii') ss' dd p)
    | false =>
      show u D σ H1
      exact h3 p1 _ σ G1 F R1 H1 (by omega) (e.mono e1) i1 s1 D (fun Δ'' σ'' G'' R'' H'' n' e'' en' ii' ss' => q Δ'' σ'' G'' R'' H'' n' (e1.trans e'') en' (I.mono (by omega) ii') ss') (fun v d G'' R'' H'' e'' ii' ss' dd p => r v d G'' R'' H'' (e1.trans e'') (I.mono (by omega) ii') ss' dd p)
/-- if .. with what follows in both ways -/
theorem sv_ifs {c1 c2 c3 : Nat} {w : TS} (h1 : EvT K I c1 tt Δ B) (h2 : B true → Sv K I c2 (tSeq t w) Δ N Rt) (h3 : B false → Sv K I c3 (tSeq u w) Δ N Rt) : Sv K I (c1 + (c2 + c3)) (tSeq (tIfS tt t u) w) Δ N Rt := fun m σ G F R H mb e i s D q r =>
  h1 m σ G F R H (by omega) e i s _ fun b G1 R1 H1 e1 i1 s1 p1 => by
    cases b with
    | true =>
      show (tSeq t w) D σ H1
      exact h2 p1 _ σ G1 F R1 H1 (by omega) (e.mono e1) i1 s1 D (fun Δ'' σ'' G'' R'' H'' n' e'' en' ii' ss' => q Δ'' σ'' G'' R'' H'' n' (e1.trans e'') en' (I.mono (by omega) ii') ss') (fun v d G'' R'' H'' e'' ii' ss' dd p => r v d G'' R'' H'' (e1.trans e'') (I.mono (by omega) ii') ss' dd p)
    | false =>
      show (tSeq u w) D σ H1
      exact h3 p1 _ σ G1 F R1 H1 (by omega) (e.mono e1) i1 s1 D (fun Δ'' σ'' G'' R'' H'' n' e'' en' ii' ss' => q Δ'' σ'' G'' R'' H'' n' (e1.trans e'') en' (I.mono (by omega) ii') ss') (fun v d G'' R'' H'' e'' ii' ss' dd p => r v d G'' R'' H'' (e1.trans e'') (I.mono (by omega) ii') ss' dd p)
/-- a return ahead of the rest -/
theorem sv_retS {c : Nat} {w : TS} (h : Ev K I c te Δ Rt) : Sv K I c (tSeq (tRet te) w) Δ N Rt := fun m σ G F R H mb e i s D q r => h m σ G F R H mb e i s _ fun v d G' R' H' e' ii ss dd p => r v d G' R' H' e' ii ss dd p
theorem sv_nextS {c : Nat} {w : TS} (h : Sv K I c w Δ N Rt) : Sv K I c (tSeq tNext w) Δ N Rt := h
/-- for target in ..: J its k: what holds of the slots after k turns -/
theorem sv_for {c0 cb n : Nat} {wi : TI} {g : TG} {js : List Nat} {Pi : List Dt → Prop} (hi : EvI K I c0 wi Δ Pi) (hl : ∀ its, Pi its → its.length ≤ n) (f : Dt → Sl → Sl) (J : List Dt → Nat → Sl → Prop) (h0 : ∀ its, Pi its → J its 0 Δ)
    (hs : ∀ its k d Δ', Pi its → its[k]? = some d → J its k Δ' → GD K g js d (f d) ∧ Sv K I cb t (f d Δ') (J its (k + 1)) Rt) (hN : ∀ its Δ', Pi its → J its its.length Δ' → N Δ') : Sv K I (c0 + n * cb) (tFor wi g t) Δ N Rt := fun m σ G F R H mb e i s D q r =>
  hi m σ G F R H (by omega) e i s _ fun Jt its G1 R1 H1 e1 i1 s1 it pi => by
    have hln := hl its pi
    have hmul : ∀ k, k ≤ its.length → k * cb ≤ n * cb := fun k hk => Nat.mul_le_mul_right _ (Nat.le_trans hk hln)
    refine ⟨fun k x σ2 H2 => x = its.length - k ∧ k ≤ its.length ∧ ∃ Δ2 G2 R2, Ex G1 G2 ∧ EnvD K G2 σ2 Δ2 ∧ I.p (m + c0 + k * cb) R2 ∧ Sp3 G2 R2 F H2 ∧ J its k Δ2,
      ⟨its.length, rfl, Nat.zero_le _, Δ, G1, R1, Evl.Ex.refl _, e.mono e1, by rw [Nat.zero_mul]; exact i1, s1, h0 its pi⟩, ?_⟩
    rintro k x σ2 H2 ⟨rfl, hk, Δ2, G2, R2, e2, en2, i2, s2, j2⟩
    by_cases hlt : k < its.length
    · refine .inr ⟨it.go k G2 R2 _ H2 e2 s2 hlt, fun σ3 H3 => ∃ Δ3 G3 R3, Ex G1 G3 ∧ EnvD K G3 σ3 Δ3 ∧ I.p (m + c0 + (k + 1) * cb) R3 ∧ Sp3 G3 R3 F H3 ∧ J its (k + 1) Δ3, fun σ3 H3 h3 => ?_, fun x H3 y => ?_⟩
      · exact ⟨its.length - (k + 1), by omega, rfl, hlt, h3⟩
      · have hd : its[k]? = some its[k] := List.getElem?_eq_getElem hlt
        have hk1 := hmul (k + 1) hlt
        rw [Nat.succ_mul] at hk1
        obtain ⟨G3, e3, s3, dx⟩ := it.yld k G2 R2 _ H2 _ e2 s2 hd x H3 y
        obtain ⟨gd, hb⟩ := hs its k _ Δ2 pi hd j2
        refine gd σ2 Δ2 G3 R2 F H3 x (en2.mono e3) s3 dx _ fun σ' env' _ => ?_
        refine hb _ σ' G3 F R2 H3 (by omega) env' i2 s3 _ (fun Δ4 σ4 G4 R4 H4 n4 e4 en4 i4 s4 => ?_) (fun v d G4 R4 H4 e4 i4 s4 dd p => ?_)
        · exact ⟨Δ4, G4, R4, (e2.trans e3).trans e4, en4, I.mono (by rw [Nat.succ_mul]; omega) i4, s4, n4⟩
        · exact r v d G4 R4 H4 (((e1.trans e2).trans e3).trans e4) (I.mono (by omega) i4) s4 dd p
    · have ek : k = its.length := by omega
      subst ek
      have hk1 := hmul its.length (Nat.le_refl _)
      exact .inl ⟨it.stop _ G2 R2 _ H2 e2 s2 rfl, q Δ2 σ2 G2 R2 H2 (hN its Δ2 pi j2) (e1.trans e2) en2 (I.mono (by omega) i2) s2⟩
end
/-! ### promises -/
abbrev Spec := List Dt → Nat → (Dt → Prop) → Prop
def mk (K : PySem.W.Frag) (Io : List Dt → Res → Prop) (S : Spec) : Sp := fun vs H Q E => ∃ ds I m c G F R P, Dens K G vs ds ∧ Io ds I ∧ m + c ≤ BIG ∧ I.p m R ∧ Sp3 G R F H ∧ S ds c P ∧
  ∀ v d G' R' H', Ex G G' → I.p (m + c) R' → Sp3 G' R' F H' → Den K G' v d → P d → Q v H'
abbrev anyI : List Dt → Res → Prop := fun _ _ => True
/-- a pure def: arguments as C says, result f -/
def pureS (n : Nat) (C : List Dt → Prop) (f : List Dt → Dt) : Spec := fun ds _ P => ds.length = n ∧ C ds ∧ P (f ds)
section
variable {K : PySem.W.Frag} {I : Res} {Δ : Sl} {P : Dt → Prop} {Ps : List Dt → Prop} {Io : List Dt → Res → Prop} {S : Spec}
theorem ev_call {c1 c2 : Nat} {E : XK} {tr : TA} (ha : EvA K I c1 tr Δ Ps) (hs : ∀ ds, Ps ds → Io ds I ∧ S ds c2 P) : Ev K I (c1 + c2) (tCall (mk K Io S) [] E tr) Δ P := fun m σ G F R H mb e i s Q q =>
  ha m σ G F R H (by omega) e i s _ fun vs ds G1 R1 H1 e1 i1 s1 d1 p1 => by
    show mk K Io S (vs ++ []) H1 Q E
    rw [List.append_nil]
    exact ⟨ds, I, m + c1, c2, G1, F, R1, P, d1, (hs ds p1).1, by omega, i1, s1, (hs ds p1).2, fun v d G2 R2 H2 e2 i2 s2 d2 p2 => q v d G2 R2 H2 (e1.trans e2) (I.as2 i2) s2 d2 p2⟩
end
section
variable {P : Program} {w : World} {K : PySem.W.Frag} {mg : Str → Option Value} {base : Heap}
theorem fn_mk {x qual : Str} {st : Stmt} {f : Addr} {fd : FuncData} {N ps : List Str} {k : Nat} {Io : List Dt → Res → Prop} {S : Spec} (F : Fun K x qual st f fd) (sc : FnScope N ps (defScope st)) (len : ∀ ds c p, S ds c p → ds.length = ps.length)
    (hbody : ∀ (cdv : Value) (A : Around) (outer : List Env) (s : Shared) (H : Hp) (E : XK), Room k (A.deeper (envOfC qual (defScope st) s.heap.objs.size f cdv)) →
      ∃ t, PSs (cxOf CX0 P w K mg base N qual (defScope st) f cdv A outer s H E).nox (defBody st) t ∧
        ∀ ds I c R, Io ds I → S ds c R → Sv K I c t (ds.map some ++ List.replicate (N.length - ds.length) none) (fun _ => R .non) R) : FnOk P w K mg base CX0 (k + 1) f fd ps (mk K Io S) := by
  refine F.ok sc (fun vs H Q E h => ?_) (fun cdv A outer s H vs Q E hr h => ?_)
  · obtain ⟨ds, I, m, c, G, F, R, P, hd, _, _, _, _, hS, _⟩ := h
    rw [hd.len]
    exact len _ _ _ hS
  · obtain ⟨t, ht, hv⟩ := hbody cdv A outer s H E hr
    obtain ⟨ds, I, m, c, G, F, R, P, hd, hI, mb, hR, sp, hS, q⟩ := h
    exact ⟨t, ht, hv ds I c P hI hS m _ G F R H mb (EnvD.start hd) hR sp _ (fun Δ' σ' G' R' H' n e' en ii ss => q _ _ G' R' H' e' ii ss .non n) (fun v d G' R' H' e' ii ss dd p => q v d G' R' H' e' ii ss dd p)⟩
end
end Fw
set_option Elab.async false
set_option linter.all false
set_option maxRecDepth 100000
set_option maxHeartbeats 4000000
/-! min(list, default=..) -/
namespace MnD
open PySem PySem.Spec PyProof.Rows
theorem margs (a v : Value) : argsOk "min" ⟨[a], [(Str.ofString "default", v)]⟩ := by
  unfold argsOk
  kernel_rfl
section
variable {prog : Program} {w : World} {A : Around} {Z : Result → Shared → Prop} {J : Addr} {fq wq : List Addr} {n : Nat} {Pp : Nat → Value → Prop} {Sx : Nat → Heap → Prop}
theorem loop_on (Wk : Walks prog w A.in1 J fq wq n Pp Sx) (lt : Nat → Nat → Bool) (cmp : CmpOf prog w A.in1 .Lt Pp lt) (C : Addr) (nC : C ∉ fq) (kw : List (Str × Value)) :
    ∀ (left j : Nat) (s : Shared) (best : Value) (cc : Nat), n - (j + 1) = left → j + 1 ≤ n → Sx (j + 1) s.heap → Pp (argBest lt j) best →
    s.heap.get? C = some { cls := .type "list", dict := none, data := .seq #[best, best] cc, slots := #[] } →
    (∀ v g tk, Pp (argBest lt (n - 1)) v → (∀ b o, b ∉ wq → b ≠ C → s.heap.get? b = some o → g.get? b = some o) → Z (.ok (.ret v)) { s with heap := g, toks := tk }) →
    codeAny (model prog w) A (.builtin "min.loop" ⟨[.ref J, .none, .ref C], kw⟩) Z s := by
  have nW : C ∉ wq := fun q => nC (Wk.sub _ q)
  have nm : (toString "min" ++ toString ".loop" : String) = "min.loop" := by decide
  intro left
  induction left with
  | zero =>
    intro j s best cc e1 e2 sx pb hC fin
    have ej : j + 1 = n := by omega
    refine codeAny_builtin F.entry_min_loop ?_
    rw [Around.under_plainId F.plain_min_loop _]
    show wpAny _ A.in1 (seqItems? (.ref C) >>= _) _ _ s
    refine wpAny_bind (wpAny_seqItems hC rfl ?_)
    show wpAny _ A.in1 (tryCatch (pyNext (.ref J)) _ >>= _) _ _ s
    refine wpAny_bind (wpAny_tryCatch (Wk.done s _ _ (ej ▸ sx) fun g tk kp => ?_))
    have hC2 := kp C _ nW hC
    show wpAny _ A.in1 (updateSeq C (fun _ => #[]) >>= _) _ _ _
    refine wpAny_bind ?_
    refine wpAny_updateSeq hC2 rfl (wpAny_bind (wpAny_letGo (wpAny_pure ?_)))
    exact fin best _ tk (by rw [← ej]; exact pb) fun b o b1 b2 e => (Heap.get?_update_other _ _ (Ne.symm b2)).trans (kp b o b1 e)
  | succ left ih =>
    intro j s best cc e1 e2 sx pb hC fin
    have lt1 : j + 1 < n := by omega
    refine codeAny_builtin F.entry_min_loop ?_
    rw [Around.under_plainId F.plain_min_loop _]
    show wpAny _ A.in1 (seqItems? (.ref C) >>= _) _ _ s
    refine wpAny_bind (wpAny_seqItems hC rfl ?_)
    show wpAny _ A.in1 (tryCatch (pyNext (.ref J)) _ >>= _) _ _ s
    refine wpAny_bind (wpAny_tryCatch (Wk.item (j + 1) s _ _ lt1 sx fun v g tk pv sx2 kp => ?_))
    have hC2 := kp C _ nW hC
    show wpAny _ A.in1 (tryCatch (holding [v, v] (richCompare .Lt v best >>= _)) _ >>= _) _ _ _
    refine wpAny_bind (wpAny_tryCatch (wpAny_holding (wpAny_bind (cmp (j + 1) (argBest lt j) v best _ _ _ pv pb ?_))))
    refine wpAny_bind (wpAny_holding (wpAny_truthy_bool ?_))
    refine wpAny_bind (wpAny_letGo (wpAny_pure ?_))
    cases hb : lt (j + 1) (argBest lt j) with
    | true =>
      simp only [if_true]
      refine wpAny_bind ?_
      refine wpAny_updateSeq hC2 rfl (wpAny_bind (wpAny_letGo ?_))
      rw [nm]
      refine wpAny_pure ⟨plainId_quiet F.plain_min_loop _, ih (j + 1) _ v _ (by omega) lt1 (Wk.frame _ _ _ sx2 fun b hbf o e => ?_) (by simp only [argBest, hb, if_true]; exact pv) (Heap.get?_update_self _ hC2 rfl)
        fun v2 g2 tk2 pv2 kp2 => ?_⟩
      · exact (Heap.get?_update_other _ _ (fun q : C = b => nC (by rw [q]; exact hbf))).trans e
      · exact fin v2 g2 tk2 pv2 fun b o b1 b2 e => kp2 b o b1 b2 ((Heap.get?_update_other _ _ (Ne.symm b2)).trans (kp b o b1 e))
    | false =>
      simp only [Bool.false_eq_true, if_false]
      refine wpAny_bind (wpAny_letGo ?_)
      rw [nm]
      refine wpAny_pure ⟨plainId_quiet F.plain_min_loop _, ih (j + 1) _ best cc (by omega) lt1 sx2 (by simp only [argBest, hb, Bool.false_eq_true, if_false]; exact pb) hC2 fun v2 g2 tk2 pv2 kp2 => ?_⟩
      exact fin v2 g2 tk2 pv2 fun b o b1 b2 e => kp2 b o b1 b2 (kp b o b1 e)
theorem loop_first (Wk : Walks prog w A.in1 J fq wq n Pp Sx) (lt : Nat → Nat → Bool) (cmp : CmpOf prog w A.in1 .Lt Pp lt) (C : Addr) (nC : C ∉ fq) (kw : List (Str × Value)) (hn : 0 < n) {s : Shared} {cc : Nat} (sx : Sx 0 s.heap)
    (hC : s.heap.get? C = some { cls := .type "list", dict := none, data := .seq #[] cc, slots := #[] })
    (fin : ∀ v g tk, Pp (argBest lt (n - 1)) v → (∀ b o, b ∉ wq → b ≠ C → s.heap.get? b = some o → g.get? b = some o) → Z (.ok (.ret v)) { s with heap := g, toks := tk }) :
    codeAny (model prog w) A (.builtin "min.loop" ⟨[.ref J, .none, .ref C], kw⟩) Z s := by
  have nW : C ∉ wq := fun q => nC (Wk.sub _ q)
  have nm : (toString "min" ++ toString ".loop" : String) = "min.loop" := by decide
  refine codeAny_builtin F.entry_min_loop ?_
  rw [Around.under_plainId F.plain_min_loop _]
  show wpAny _ A.in1 (seqItems? (.ref C) >>= _) _ _ s
  refine wpAny_bind (wpAny_seqItems hC rfl ?_)
  show wpAny _ A.in1 (tryCatch (pyNext (.ref J)) _ >>= _) _ _ s
  refine wpAny_bind (wpAny_tryCatch (Wk.item 0 s _ _ hn sx fun v g tk pv sx2 kp => ?_))
  have hC2 := kp C _ nW hC
  show wpAny _ A.in1 (updateSeq C (fun _ => #[v, v]) >>= _) _ _ _
  refine wpAny_bind ?_
  refine wpAny_updateSeq hC2 rfl ?_
  rw [nm]
  refine wpAny_pure ⟨plainId_quiet F.plain_min_loop _, loop_on Wk lt cmp C nC kw _ 0 _ v _ rfl hn (Wk.frame _ _ _ sx2 fun b hbf o e => ?_) pv (Heap.get?_update_self _ hC2 rfl) fun v2 g2 tk2 pv2 kp2 => ?_⟩
  · exact (Heap.get?_update_other _ _ (fun q : C = b => nC (by rw [q]; exact hbf))).trans e
  · exact fin v2 g2 tk2 pv2 fun b o b1 b2 e => kp2 b o b1 b2 ((Heap.get?_update_other _ _ (Ne.symm b2)).trans (kp b o b1 e))
theorem loop_empty (Wk : Walks prog w A.in1 J fq wq n Pp Sx) (C : Addr) (nC : C ∉ fq) (nm0 : Str) (dv : Value) (hn : n = 0) {s : Shared} {cc : Nat} (sx : Sx 0 s.heap)
    (hC : s.heap.get? C = some { cls := .type "list", dict := none, data := .seq #[] cc, slots := #[] })
    (fin : ∀ g tk, (∀ b o, b ∉ wq → s.heap.get? b = some o → g.get? b = some o) → Z (.ok (.ret dv)) { s with heap := g, toks := tk }) :
    codeAny (model prog w) A (.builtin "min.loop" ⟨[.ref J, .none, .ref C], [(nm0, dv)]⟩) Z s := by
  have nW : C ∉ wq := fun q => nC (Wk.sub _ q)
  refine codeAny_builtin F.entry_min_loop ?_
  rw [Around.under_plainId F.plain_min_loop _]
  show wpAny _ A.in1 (seqItems? (.ref C) >>= _) _ _ s
  refine wpAny_bind (wpAny_seqItems hC rfl ?_)
  show wpAny _ A.in1 (tryCatch (pyNext (.ref J)) _ >>= _) _ _ s
  refine wpAny_bind (wpAny_tryCatch (Wk.done s _ _ (hn ▸ sx) fun g tk kp => ?_))
  exact wpAny_bind (wpAny_rule (wpAny_pure (fin g tk kp)))
end
section
variable {prog : Program} {w : World} {A : Around} {E : Value → Shared → Prop} {s : Shared}
/-- a built-in function with keywords, to its tree's end -/
abbrev toEnd (prog : Program) (w : World) (A : Around) (Q : Value → Shared → Prop) (E : Value → Shared → Prop) : Result → Shared → Prop := fun r t => match r with
  | .ok (.ret v) => Q v t
  | .ok _ => False
  | .error e => E e t
theorem tree_kw {id : String} {bt : Builtin} {us : List Value} {kw : List (Str × Value)} {Q : Value → Shared → Prop} (k1 : builtinKind id = none) (k2 : plainId id = true) (k3 : entryFor table id = some bt) (k4 : argsOk id ⟨us, kw⟩)
    (run : wpAny (model prog w) A.in1 (bt ⟨us, kw⟩) (fun fin t => match fin with
      | .done f => toEnd prog w A Q E (.ok f) t
      | .again c => c.quiet = true ∧ codeAny (model prog w) A c (toEnd prog w A Q E) t) E s) :
    wpAny (model prog w) A (call (.builtin id) us kw) Q E s := by
  refine wpAny_call (codeAny_call_builtin k2 k3 ?_)
  simp only [checkBuiltinCall, k1]
  cases q : Manifest.signature? id with
  | none => exact wpAny_pure run
  | some sg =>
    have k5 : Bind.checkArgs id sg ⟨us, kw⟩ = pure () := by simpa only [argsOk, q] using k4
    simp only [k5]
    exact wpAny_pure run
theorem call_minD {x dv : Value} {Q : Value → Shared → Prop}
    (h : wpAny (model prog w) A.in1 (pyIter x) (fun it s₂ => ∃ J fq wq n Pp Sx lt, it = .ref J ∧ Walks prog w A.in1 J fq wq n Pp Sx ∧ Sx 0 s₂.heap ∧ (∀ b ∈ fq, b < s₂.heap.objs.size) ∧ CmpOf prog w A.in1 .Lt Pp lt ∧
      (0 < n → ∀ v g tk, Pp (argBest lt (n - 1)) v → (∀ b o, b ∉ wq → s₂.heap.get? b = some o → g.get? b = some o) → Q v { s₂ with heap := g, toks := tk }) ∧
      (n = 0 → ∀ g tk, (∀ b o, b ∉ wq → s₂.heap.get? b = some o → g.get? b = some o) → Q dv { s₂ with heap := g, toks := tk })) E s) :
    wpAny (model prog w) A (call (.builtin "min") [x] [(Str.ofString "default", dv)]) Q E s := by
  have nm : (toString "min" ++ toString ".loop" : String) = "min.loop" := by decide
  refine tree_kw F.kind_min F.plain_min F.entry_min (margs x dv) ?_
  show wpAny _ A.in1 (Builtin.Builtins.bindParams "min" ["key", "default"] 0 ⟨[], [(Str.ofString "default", dv)]⟩ >>= _) _ _ s
  refine wpAny_bind (wpAny_of_eq (show Builtin.Builtins.bindParams "min" ["key", "default"] 0 ⟨[], [(Str.ofString "default", dv)]⟩ = pure [none, some dv] from rfl) ?_)
  refine wpAny_bind (wpAny_pure ?_)
  refine wpAny_bind (wpAny_mono h (fun it s₂ h₂ => ?_) fun _ _ e => e)
  obtain ⟨J, fq, wq, n, Pp, Sx, lt, rfl, Wk, sx, hfp, cmp, q1, q0⟩ := h₂
  refine wpAny_bind (wpAny_newObj_type ?_)
  have nC : s₂.heap.objs.size ∉ fq := fun hm => Nat.lt_irrefl _ (hfp _ hm)
  rw [nm]
  by_cases hn : n = 0
  · refine wpAny_pure ⟨plainId_quiet F.plain_min_loop _, loop_empty Wk s₂.heap.objs.size nC _ dv hn (Wk.frame _ _ _ sx fun b _ o e => Heap.get?_push_of_some _ e) (Heap.get?_push_size _ rfl) fun g tk kp => ?_⟩
    exact q0 hn g tk fun b o b1 e => kp b o b1 (Heap.get?_push_of_some _ e)
  · refine wpAny_pure ⟨plainId_quiet F.plain_min_loop _, loop_first Wk lt cmp s₂.heap.objs.size nC _ (Nat.pos_of_ne_zero hn) (Wk.frame _ _ _ sx fun b _ o e => Heap.get?_push_of_some _ e) (Heap.get?_push_size _ rfl) fun v g tk pv kp => ?_⟩
    exact q1 (Nat.pos_of_ne_zero hn) v g tk pv fun b o b1 e => kp b o b1 (Nat.ne_of_lt (Heap.lt_size e)) (Heap.get?_push_of_some _ e)
end
end MnD
set_option Elab.async false
set_option linter.all false
set_option maxRecDepth 100000
set_option maxHeartbeats 4000000
namespace Fw
open PySem PySem.Spec PyProof.Rows L2
open Evl (Ex)
/-! min with a default -/
def rMinD (K : PySem.W.Frag) : List V → List V → Hp → VK → Prop := fun xs zs H Q => ∃ (a : Addr) (ns : List Int) (d : Int), xs = [.ref a] ∧ zs = [.int d] ∧ SqL K H a (ns.map V.int) ∧ (ns = [] → Q (.int d) H) ∧ (ns ≠ [] → ∀ m ∈ ns, (∀ y ∈ ns, m ≤ y) → Q (.int m) H)
theorem cr_minD {X : Cx} (hc : X.calm = true) : CallRK X (.builtin "min") [Str.ofString "default"] (rMinD X.K) := by
  intro pins s σ H xs zs us ws Q I r r2 h
  obtain ⟨a, ns, d, rfl, rfl, hs, q0, q1⟩ := h
  obtain ⟨its, rv, hl, _⟩ := I.list hs
  rw [Vals.ref1 r]
  obtain ⟨wv, rfl, tk0, rfl⟩ := vals1 r2
  obtain ⟨ps, e⟩ := rv.ints.allInts.items
  have hn : numsOf (intItems ps).toList = ns := by
    rw [← e]
    exact rv.ints.numsOf
  rw [nums_intItems] at hn
  have hl2 := hl.isList
  rw [e] at hl2
  have hlen : ns.length = ps.size := by
    rw [← hn, List.length_map, Array.length_toList]
  refine MnD.call_minD (iter_intList hl2 fun s₂ e2 st hfp hlI => ?_)
  subst e2
  refine ⟨_, _, _, _, _, _, _, rfl, Walks.list (A := X.A.in1) (I.ok.hd hc) _ a hlI (intItems ps), st, hfp, CmpOf.ints_lt (numAt ps) (fun _ _ => intItems_at), fun hpos v g tk hv hk => ?_, fun hz g tk hk => ?_⟩
  · have hpos2 : 0 < ps.size := by simpa [intItems] using hpos
    have hv2 : (intItems ps)[argBest (fun i j => decide (numAt ps i < numAt ps j)) (ps.size - 1)]? = some v := by simpa [intItems] using hv
    obtain ⟨t, rfl⟩ := intItems_at hv2
    obtain ⟨h1, h2⟩ := argBest_lt (numAt ps) (ps.size - 1)
    have hne : ns ≠ [] := fun z => by
      rw [z] at hlen
      simp at hlen
      omega
    refine ⟨.int _, H, I.kept (old_kept hk), ⟨_, rfl⟩, q1 hne _ ?_ fun y hy => ?_⟩
    · rw [← hn, numAt_eq]
      exact PySem.getD_mem (by rw [List.length_map, Array.length_toList]; omega)
    · rw [← hn] at hy
      obtain ⟨j, hj, rfl⟩ := mem_getD hy
      rw [List.length_map, Array.length_toList] at hj
      rw [← numAt_eq]
      exact h2 j (by omega)
  · have hz2 : ps.size = 0 := by simpa [intItems] using hz
    have hne : ns = [] := List.eq_nil_of_length_eq_zero (by rw [hlen, hz2])
    exact ⟨.int d, H, I.kept (old_kept hk), ⟨_, rfl⟩, q0 hne⟩
section
variable {K : PySem.W.Frag} {I : Res} {Δ : Sl} {P : Dt → Prop} {Ps Qs : List Dt → Prop}
theorem ev_minD {c1 c2 : Nat} {tr tk : TA} (ha : EvA K I c1 tr Δ Ps) (hk : EvA K I c2 tk Δ Qs) (h : ∀ xs zs, Ps xs → Qs zs → ∃ (ns : List Int) (d : Int), xs = [.lst (ns.map Dt.int)] ∧ zs = [.int d] ∧ (ns = [] → P (.int d)) ∧ (ns ≠ [] → ∀ m ∈ ns, (∀ y ∈ ns, m ≤ y) → P (.int m))) :
    Ev K I (c1 + c2) (tCKw (rMinD K) tr tk) Δ P := fun m σ G F R H mb e i s Q q =>
  ha m σ G F R H (by omega) e i s _ fun vs ds G1 R1 H1 e1 i1 s1 d1 p1 => hk _ σ G1 F R1 H1 (by omega) (e.mono e1) i1 s1 _ fun zs es G2 R2 H2 e2 i2 s2 d2 p2 => by
    obtain ⟨ns, d, rfl, rfl, h0, h1⟩ := h ds es p1 p2
    have d1' := d1.mono e2
    cases d2 with
    | cons dd dn =>
      cases dn
      cases dd
      cases d1' with
      | cons dl dn =>
        cases dn
        cases dl with
        | lst ha hd =>
          have e := hd.ints
          subst e
          exact ⟨_, ns, d, rfl, rfl, s2.lstH ha, fun z => q _ _ G2 R2 H2 (e1.trans e2) (I.as2 i2) s2 (.int _) (h0 z), fun z m hm hle => q _ _ G2 R2 H2 (e1.trans e2) (I.as2 i2) s2 (.int _) (h1 z m hm hle)⟩
end
/-! == of data without dicts -/
mutual
def toP : Dt → PyData
  | .non => .none
  | .bl b => .bool b
  | .int i => .int i
  | .str s => .str s
  | .lst xs => .list (toPs xs)
  | .tup xs => .tuple (toPs xs)
  | .dic => .dict []
  | .ptr _ => .none
  | .cls _ => .none
  | .scr _ => .none
def toPs : List Dt → List PyData
  | [] => []
  | x :: xs => toP x :: toPs xs
end
mutual
def flatD : Dt → Bool
  | .dic => false
  | .ptr _ => false
  | .cls _ => false
  | .scr _ => false
  | .lst xs => flatDs xs
  | .tup xs => flatDs xs
  | .non | .bl _ | .int _ | .str _ => true
def flatDs : List Dt → Bool
  | [] => true
  | x :: xs => flatD x && flatDs xs
end
section
variable {K : PySem.W.Frag} {G H : Hp}
mutual
theorem Den.dp (e : Ex G H) : ∀ {v : V} {d : Dt}, Den K G v d → flatD d = true → Dp K H v (toP d)
  | _, _, .non, _ => .non
  | _, _, .bl b, _ => .bl b
  | _, _, .int i, _ => .int i
  | _, _, .str x, _ => .str x
  | _, _, .lst h hs, f => .lst (.inl (.inl (e _ _ h))) (Dens.dp e hs (by simpa [flatD] using f))
  | _, _, .tup h hs, f => .tup (.inl (.inl (e _ _ h))) (Dens.dp e hs (by simpa [flatD] using f))
  | _, _, .dic h, f => by simp [flatD] at f
  | _, _, .ptr a, f => by simp [flatD] at f
  | _, _, .cls v, f => by simp [flatD] at f
  | _, _, .scr h, f => by simp [flatD] at f
theorem Dens.dp (e : Ex G H) : ∀ {vs : List V} {ds : List Dt}, Dens K G vs ds → flatDs ds = true → DpAll K H vs (toPs ds)
  | _, _, .nil, _ => .nil
  | _, _, .cons h hs, f => .cons (Den.dp e h (Bool.and_eq_true_iff.mp f).1) (Dens.dp e hs (Bool.and_eq_true_iff.mp f).2)
end
theorem opd_eqD {x y : Dt} (hx : flatD x = true) (hy : flatD y = true) (sx : SeqAt.shaped (toP x) = true) (sy : SeqAt.shaped (toP y) = true) : OpD K (rEqD K) x y (· = .bl (PyData.eqv (toP x) (toP y))) := fun v w G F R H s hv hw Q q =>
  ⟨_, _, hv.dp s.g hx, hw.dp s.g hy, sx, sy, q _ _ G H (Evl.Ex.refl _) s (.bl _) rfl⟩
theorem opd_neD {x y : Dt} (hx : flatD x = true) (hy : flatD y = true) (sx : SeqAt.shaped (toP x) = true) (sy : SeqAt.shaped (toP y) = true) : OpD K (rNeD K) x y (· = .bl (!PyData.eqv (toP x) (toP y))) := fun v w G F R H s hv hw Q q =>
  ⟨_, _, hv.dp s.g hx, hw.dp s.g hy, sx, sy, q _ _ G H (Evl.Ex.refl _) s (.bl _) rfl⟩
end
abbrev iL (ns : List Int) : List Dt := ns.map Dt.int
theorem flat_ints : ∀ ns : List Int, flatDs (iL ns) = true
  | [] => rfl
  | n :: ns => by
    show (flatD (.int n) && flatDs (iL ns)) = true
    rw [flat_ints ns]
    rfl
theorem toPs_ints : ∀ ns : List Int, toPs (iL ns) = ns.map PyData.int
  | [] => rfl
  | n :: ns => by
    show toP (.int n) :: toPs (iL ns) = PyData.int n :: ns.map PyData.int
    rw [toPs_ints ns]
    rfl
theorem lay_ints : ∀ ns : List Int, PyData.canLayAll0 (ns.map PyData.int) = true
  | [] => rfl
  | n :: ns => by
    show (PyData.canLay0 (.int n) && PyData.canLayAll0 (ns.map PyData.int)) = true
    rw [lay_ints ns]
    rfl
theorem depth_ints : ∀ ns : List Int, PyData.depthAll (ns.map PyData.int) = 0
  | [] => rfl
  | n :: ns => by
    show max (PyData.depth (.int n)) (PyData.depthAll (ns.map PyData.int)) = 0
    rw [depth_ints ns]
    rfl
theorem eqv_ints : ∀ ns ms : List Int, PyData.eqvAll (ns.map PyData.int) (ms.map PyData.int) = decide (ns = ms)
  | [], [] => rfl
  | [], _ :: _ => rfl
  | _ :: _, [] => rfl
  | n :: ns, m :: ms => by
    show (PyData.eqv (.int n) (.int m) && PyData.eqvAll (ns.map PyData.int) (ms.map PyData.int)) = decide (n :: ns = m :: ms)
    rw [eqv_ints ns ms]
    show ((n == m) && decide (ns = ms)) = decide (n :: ns = m :: ms)
    by_cases h1 : n = m
    · subst h1
      simp
    · simp [h1]
theorem shaped_tup (ns : List Int) : SeqAt.shaped (toP (.tup (iL ns))) = true := by
  show SeqAt.shaped (.tuple (toPs (iL ns))) = true
  rw [toPs_ints]
  unfold SeqAt.shaped
  rw [Bool.and_eq_true]
  refine ⟨?_, ?_⟩
  · show PyData.canLayAll0 (ns.map PyData.int) = true
    exact lay_ints ns
  · refine decide_eq_true ?_
    show PyData.depthAll (ns.map PyData.int) + 1 ≤ 64
    rw [depth_ints]
    omega
theorem shaped_lst (ns : List Int) : SeqAt.shaped (toP (.lst (iL ns))) = true := by
  show SeqAt.shaped (.list (toPs (iL ns))) = true
  rw [toPs_ints]
  unfold SeqAt.shaped
  rw [Bool.and_eq_true]
  refine ⟨?_, ?_⟩
  · show PyData.canLayAll0 (ns.map PyData.int) = true
    exact lay_ints ns
  · refine decide_eq_true ?_
    show PyData.depthAll (ns.map PyData.int) + 1 ≤ 64
    rw [depth_ints]
    omega
theorem opd_eqTI {K : PySem.W.Frag} {ns ms : List Int} : OpD K (rEqD K) (.tup (iL ns)) (.tup (iL ms)) (· = .bl (decide (ns = ms))) := by
  have h := opd_eqD (K := K) (x := .tup (iL ns)) (y := .tup (iL ms)) (flat_ints ns) (flat_ints ms) (shaped_tup ns) (shaped_tup ms)
  have e : PyData.eqv (toP (.tup (iL ns))) (toP (.tup (iL ms))) = decide (ns = ms) := by
    show PyData.eqvAll (toPs (iL ns)) (toPs (iL ms)) = _
    rw [toPs_ints, toPs_ints, eqv_ints]
  rw [e] at h
  exact h
theorem opd_neTI {K : PySem.W.Frag} {ns ms : List Int} : OpD K (rNeD K) (.tup (iL ns)) (.tup (iL ms)) (· = .bl (!decide (ns = ms))) := by
  have h := opd_neD (K := K) (x := .tup (iL ns)) (y := .tup (iL ms)) (flat_ints ns) (flat_ints ms) (shaped_tup ns) (shaped_tup ms)
  have e : PyData.eqv (toP (.tup (iL ns))) (toP (.tup (iL ms))) = decide (ns = ms) := by
    show PyData.eqvAll (toPs (iL ns)) (toPs (iL ms)) = _
    rw [toPs_ints, toPs_ints, eqv_ints]
  rw [e] at h
  exact h
theorem opd_neLI {K : PySem.W.Frag} {ns ms : List Int} : OpD K (rNeD K) (.lst (iL ns)) (.lst (iL ms)) (· = .bl (!decide (ns = ms))) := by
  have h := opd_neD (K := K) (x := .lst (iL ns)) (y := .lst (iL ms)) (flat_ints ns) (flat_ints ms) (shaped_lst ns) (shaped_lst ms)
  have e : PyData.eqv (toP (.lst (iL ns))) (toP (.lst (iL ms))) = decide (ns = ms) := by
    show PyData.eqvAll (toPs (iL ns)) (toPs (iL ms)) = _
    rw [toPs_ints, toPs_ints, eqv_ints]
  rw [e] at h
  exact h
theorem opd_eqLI {K : PySem.W.Frag} {ns ms : List Int} : OpD K (rEqD K) (.lst (iL ns)) (.lst (iL ms)) (· = .bl (decide (ns = ms))) := by
  have h := opd_eqD (K := K) (x := .lst (iL ns)) (y := .lst (iL ms)) (flat_ints ns) (flat_ints ms) (shaped_lst ns) (shaped_lst ms)
  have e : PyData.eqv (toP (.lst (iL ns))) (toP (.lst (iL ms))) = decide (ns = ms) := by
    show PyData.eqvAll (toPs (iL ns)) (toPs (iL ms)) = _
    rw [toPs_ints, toPs_ints, eqv_ints]
  rw [e] at h
  exact h
theorem opd_isB {K : PySem.W.Frag} {a b : Bool} : OpD K rIsB (.bl a) (.bl b) (· = .bl (decide (a = b))) := fun v w G F R H s hv hw Q q => by
  cases hv
  cases hw
  exact ⟨a, b, rfl, rfl, q _ _ G H (Evl.Ex.refl _) s (.bl _) rfl⟩
theorem opd_notB {K : PySem.W.Frag} {a b : Bool} : OpD K rNotB (.bl a) (.bl b) (· = .bl (!decide (a = b))) := fun v w G F R H s hv hw Q q => by
  cases hv
  cases hw
  exact ⟨a, b, rfl, rfl, q _ _ G H (Evl.Ex.refl _) s (.bl _) rfl⟩
end Fw
set_option Elab.async false
set_option linter.all false
set_option maxRecDepth 100000
set_option maxHeartbeats 4000000
/-! enumerate(tuple) -/
namespace EnT
open PySem PySem.Spec PyProof.Rows L2
open AutoSeq1 (wpAny_loadPart')
theorem new_meets (q : Addr) (us : Array Value) (n : Nat) (dc : Option Addr) (sl : Array (Option Value)) :
    Meets (Builtin.«enumerate.__new__» ⟨[.type "enumerate", .ref q], []⟩) (fun _ Z s => s.heap.get? q = some { cls := .type "tuple", dict := dc, data := .seq us n, slots := sl } ∧
      Z (.ok (.ret (.ref (s.heap.push { cls := .type "tuple_iterator", data := .fields #[.ref q, .int 0 0] }).objs.size)))
        { s with heap := (s.heap.push { cls := .type "tuple_iterator", data := .fields #[.ref q, .int 0 0] }).push { cls := .type "enumerate", data := .fields #[.none, .bool false, .ref s.heap.objs.size, rawInt 0, .none, .none] } }) :=
  .of_wp fun prog w A Z s hz => by
    obtain ⟨hp, gs, dr, tk, os⟩ := s
    obtain ⟨hq, fin⟩ := hz
    have sb := sub_enumerate
    have hT : Heap.IsTuple (Shared.heap ⟨hp, gs, dr, tk, os⟩) q us := ⟨_, hq, rfl, n, rfl⟩
    wp_walk using wpAny_loadPart' hq
    refine wpAny_stack_any fun st => wpAny_pure ?_
    split
    · rename_i cc _ _ _ _ _
      cases (cc == Value.type "enumerate")
      · wp_walk using wpAny_loadPart' hq, wpAny_pyIter_tuple hT
        exact ⟨_, rfl, fin⟩
      · wp_walk using wpAny_loadPart' hq, wpAny_pyIter_tuple hT
        exact ⟨_, rfl, fin⟩
    · wp_walk using wpAny_loadPart' hq, wpAny_pyIter_tuple hT
      exact ⟨_, rfl, fin⟩
section
variable {prog : Program} {w : World} {A : Around} {E : Value → Shared → Prop} {s : Shared}
theorem made {q : Addr} {us : Array Value} {Q : Value → Shared → Prop} (hT : IsTup s.heap q us)
    (fin : ∀ g, IsEnum g (s.heap.objs.size + 1) s.heap.objs.size 0 .none → g.IsTupleIter s.heap.objs.size q 0 → g.objs.size = s.heap.objs.size + 2 → (∀ b o, s.heap.get? b = some o → g.get? b = some o) → Q (.ref (s.heap.objs.size + 1)) { s with heap := g }) :
    wpAny (model prog w) A (call (.type "enumerate") [.ref q]) Q E s := by
  obtain ⟨⟨cc, dc, dt, sl⟩, hq, hcc, n, hdt⟩ := hT
  simp only at hcc hdt
  subst hcc hdt
  refine callType_new F.called_enumerate (by decide) (F.typeCall_enumerate_1 _) (F.newCall_enumerate_1 _) (fun obj => F.args_object_init_2 obj _) F.entry_enumerate_new
    (new_meets q us n dc sl) ⟨hq, ?_⟩
  have sz : (s.heap.push { cls := .type "tuple_iterator", data := .fields #[.ref q, .int 0 0] }).objs.size = s.heap.objs.size + 1 := Heap.size_push ..
  show _ ∧ _
  rw [sz]
  have en : IsEnum ((s.heap.push { cls := .type "tuple_iterator", data := .fields #[.ref q, .int 0 0] }).push
      { cls := .type "enumerate", data := .fields #[.none, .bool false, .ref s.heap.objs.size, rawInt 0, .none, .none] }) (s.heap.objs.size + 1) s.heap.objs.size 0 .none := by
    have z := Heap.get?_push_size (s.heap.push { cls := .type "tuple_iterator", data := .fields #[.ref q, .int 0 0] })
      (o := { cls := .type "enumerate", data := .fields #[.none, .bool false, .ref s.heap.objs.size, rawInt 0, .none, .none] }) rfl
    rw [sz] at z
    exact z
  exact ⟨⟨_, en, rfl⟩, fin _ en ⟨_, Heap.get?_push_of_some _ (Heap.get?_push_size _ rfl), rfl, rfl⟩ (by rw [Heap.size_push, sz]) fun b o z => Heap.get?_push_of_some _ (Heap.get?_push_of_some _ z)⟩
end
/-- the tuple at a as it stands at each turn, each item in a new pair -/
def ItT (K : PySem.W.Frag) (a : Addr) : It where
  go := fun i H => ∃ (xs : List V) (x : V), SqT K H a xs ∧ xs[i]? = some x
  yld := fun i H v H' => ∃ T x, v = .ref T ∧ H T = none ∧ H' = upd H T (.tup [.int (i : Nat), x]) ∧ ∀ xs, SqT K H a xs → xs[i]? = some x
  stop := fun i H => ∃ xs : List V, SqT K H a xs ∧ xs.length = i
theorem turns {P : Program} {w : World} {K : PySem.W.Frag} {elts : List Expr} {kk : Nat} {tpos : Pos} (a e it : Addr) (hai : a ≠ it) (hae : a ≠ e) :
    Turn P w K (.Tuple elts kk tpos) (ItT K a) [e, it] e (fun i h => (∃ old, IsEnum h e it ((i : Nat) : Int) old) ∧ h.IsTupleIter it a i ∧ e ≠ it) where
  mem := by simp
  obj := fun i h st b hb => by
    obtain ⟨⟨old, he⟩, ⟨o, ho, hc, hd⟩, _⟩ := st
    have z : b = e ∨ b = it := by simpa using hb
    rcases z with z | z
    · subst z
      exact ⟨_, he, fun v q => nomatch q⟩
    · subst z
      exact ⟨o, ho, fun v q => by rw [hd] at q; cases q⟩
  keep := fun i h h' st k => by
    obtain ⟨⟨old, he⟩, hi, hne⟩ := st
    exact ⟨⟨old, k e (by simp) _ he⟩, hi.at fun o q => k it (by simp) o q, hne⟩
  item := by
    intro X hP hw hK hcalm i pins s σ H E I hf st hg
    subst hP hw hK
    obtain ⟨⟨old, he⟩, hit, hne⟩ := st
    obtain ⟨xs, x, hq, hx⟩ := hg
    obtain ⟨its, rv, p, hz⟩ := I.tuple hq
    obtain ⟨u, hu, ru⟩ := rv.get hx
    have hel : e < s.heap.objs.size := Heap.lt_size he
    have hil : it < s.heap.objs.size := by
      obtain ⟨_, q, _⟩ := hit
      exact Heap.lt_size q
    have hlt : i < its.toArray.size := by
      rw [List.size_toArray]
      exact (List.getElem?_eq_some_iff.mp hu).1
    have D := Draws.tuple (prog := X.prog) (w := X.w) (A := X.A.in1) (I.ok.hd hcalm) it a hai its.toArray
    refine wpAny_pyNext_enum_itemD D he ⟨hit, p⟩ hlt hne (by simp [hne, Ne.symm hae]) fun y h' tk hy ho st' hT hsz hk => ?_
    have ey : y = u := by
      have z : its.toArray[i]? = some u := by simpa using hu
      rw [z] at hy
      exact (Option.some.inj hy).symm
    subst ey
    refine ⟨_, rfl, wpAny_letOwnedTupleGo_enum (s := { s with heap := h', toks := tk + 1 }) ho fun h'' he' sb => ?_⟩
    have hT2 : h''.get? s.heap.objs.size = some { cls := .type "tuple", data := .seq #[.int i tk, y] } := (sb.2 _ (Nat.ne_of_gt hel)).trans hT
    have new : ObjOk X.prog X.w (upd H s.heap.objs.size (.tup [.int (i : Nat), x])) h'' s.heap.objs.size (.tup [.int (i : Nat), x]) :=
      ⟨by show 2 ≤ sizeLine; decide, [.int i tk, y], .cons ⟨_, rfl⟩ (.cons ru .nil), ⟨_, hT2, rfl, _, rfl⟩⟩
    have I1 : Inv X pins σ (upd H s.heap.objs.size (.tup [.int (i : Nat), x])) { s with heap := h'', toks := tk + 1 } :=
      I.turnedNew (ch := [e, it]) (fun b ob hb q => (sb.2 b (fun z => hb (by simp [z]))).trans (hk b ob (fun z => hb (by simp [z])) (fun z => hb (by simp [z])) q)) hf (Nat.le_refl _) new
    refine ⟨.ref s.heap.objs.size, _, I1, rfl, ⟨_, x, rfl, I.hok.fresh (Nat.le_refl _), rfl, fun ys hy => by rw [I.tuple_inj hy hq]; exact hx⟩, ⟨⟨y, ?_⟩, st'.1.at fun o q => (sb.2 it (Ne.symm hne)).trans q, hne⟩, fun b hb => ?_⟩
    · have e1 : ((i + 1 : Nat) : Int) = (i : Int) + 1 := by omega
      rw [e1]
      exact he'
    · have hb' : b < s.heap.objs.size := by
        have z : b = e ∨ b = it := by simpa using hb
        rcases z with z | z
        · subst z
          exact hel
        · subst z
          exact hil
      rw [upd_ne (Nat.ne_of_lt hb')]
      exact (hf b hb).1
  done := by
    intro X hP hw hK hcalm i pins s σ H E I hf st hg
    subst hP hw hK
    obtain ⟨⟨old, he⟩, hit, hne⟩ := st
    obtain ⟨xs, hq, hx⟩ := hg
    obtain ⟨its, rv, p, hz⟩ := I.tuple hq
    obtain ⟨f0, f1, f2, f3, f4, f5⟩ := hf it (by simp)
    have hl := rv.length
    have D := Draws.tuple (prog := X.prog) (w := X.w) (A := X.A.in1) (I.ok.hd hcalm) it a hai its.toArray
    have en : its.toArray.size = i := by
      rw [List.size_toArray, ← hl]
      exact hx
    refine wpAny_pyNext_enum_endD D he (by rw [en]; exact ⟨hit, p⟩) fun h' eb => ⟨rfl, I.turned (t' := s.toks) (fun b o hb q => eb b o hb q) f0 f1 f3 f4 f5⟩
  self := fun A i s Q E st h => by
    obtain ⟨⟨_, he⟩, _⟩ := st
    exact wpAny_pyIter_enum he h
def iEnT (K : PySem.W.Frag) (ta : TA) : TI := fun σ H R => ta σ H fun vs H1 => ∃ a xs, vs = [.ref a] ∧ SqT K H1 a xs ∧ R (ItT K a) H1
theorem pi_enT {X : Cx} {e : Expr} {ta : TA} {p pos tpos : Pos} {elts : List Expr} {kk : Nat} (hg : Gl X "enumerate") (hm : X.mg "enumerate" = none) (ha : PA X [e] ta) (hs : starEach [e] X.env = [(false, eval e X.env)] := by rfl) :
    PI X (.Tuple elts kk tpos) (.Call (.Name "enumerate" p) [e] [] pos) (iEnT X.K ta) := by
  refine ⟨fun pins s σ H R I h => ?_⟩
  refine Call_ (ld_blt I hg hm boot_enumerate (PyProof.Rows.callWith_type1 (thn (ha.run pos pins s σ H _ I h) fun us s1 ⟨vs, H1, I1, r1, q1⟩ => ?_) hs rfl))
  obtain ⟨a, xs, ex, hq, q⟩ := q1
  subst ex
  cases r1 with
  | cons r rr =>
    cases rr
    cases r
    obtain ⟨its, rv, p', hz⟩ := I1.tuple hq
    have hal : a < s1.heap.objs.size := by
      obtain ⟨_, z, _⟩ := p'
      exact Heap.lt_size z
    refine made p' fun g he hit hsz hk => wpAny_pyIter_enum he ?_
    have I2 : Inv X pins σ H1 { s1 with heap := g } := I1.kept (t' := s1.toks) hk
    refine ⟨s1.heap.objs.size + 1, [s1.heap.objs.size + 1, s1.heap.objs.size], _, _, H1, rfl, I2, turns a (s1.heap.objs.size + 1) s1.heap.objs.size (Nat.ne_of_lt hal) (Nat.ne_of_lt (Nat.lt_succ_of_lt hal)), ⟨⟨.none, he⟩, hit, Nat.succ_ne_self _⟩, fun b hb => ?_, q⟩
    have z : b = s1.heap.objs.size + 1 ∨ b = s1.heap.objs.size := by simpa using hb
    have hle : s1.heap.objs.size ≤ b := by
      rcases z with z | z
      · rw [z]
        exact Nat.le_add_right _ _
      · rw [z]
        exact Nat.le_refl _
    exact I1.fpOk hle (I1.hok.fresh hle)
end EnT
namespace Fw
open PySem PySem.Spec PyProof.Rows L2
open Evl (Ex)
def enumD (xs : List Dt) : List Dt := zipD (rngD 0 xs.length) xs
section
variable {K : PySem.W.Frag} {I : Res} {Δ : Sl} {Ps : List Dt → Prop}
theorem enumD_len (xs : List Dt) : (enumD xs).length = xs.length := by
  unfold enumD
  rw [zipD_len, rngD_len]
  omega
theorem rngD_get {lo : Int} {n i : Nat} {d : Dt} (h : (rngD lo n)[i]? = some d) : d = .int (lo + (i : Nat)) := by
  unfold rngD at h
  rw [List.getElem?_map] at h
  obtain ⟨k, e1, e2⟩ := Option.map_eq_some_iff.mp h
  have hl := (List.getElem?_eq_some_iff.mp e1).1
  rw [List.length_range] at hl
  rw [List.getElem?_range hl] at e1
  cases e1
  exact e2.symm
theorem enumD_get {xs : List Dt} {i : Nat} {d : Dt} (h : (enumD xs)[i]? = some d) : ∃ x, xs[i]? = some x ∧ d = .tup [.int (i : Nat), x] := by
  obtain ⟨p, x, e1, e2, rfl⟩ := zipD_get h
  have e := rngD_get e1
  rw [Int.zero_add] at e
  subst e
  exact ⟨x, e2, rfl⟩
theorem itd_enT {G : Hp} {a : Addr} {vs : List V} {xs : List Dt} (ha : G a = some (.tup vs)) (dx : Dens K G vs xs) : ItD K (EnT.ItT K a) (enumD xs) G := by
  refine ⟨fun i G1 R F H e s hi => ?_, fun i G1 R F H d e s hi x H' y => ?_, fun i G1 R F H e s hi => ?_⟩
  · rw [enumD_len] at hi
    obtain ⟨v, hv, _⟩ := dx.get (List.getElem?_eq_getElem hi)
    exact ⟨vs, v, s.tupH (e _ _ ha), hv⟩
  · obtain ⟨T, p, rfl, nT, rfl, f1⟩ := y
    obtain ⟨c1, e1, rfl⟩ := enumD_get hi
    obtain ⟨v, hv, dv⟩ := dx.get e1
    have z1 := f1 vs (s.tupH (e _ _ ha))
    rw [hv] at z1
    cases z1
    exact ⟨_, Ex.new1 s nT, s.new nT, .tup upd_same (.cons (.int _) (.cons ((dv.mono e).mono (Ex.new1 s nT)) .nil))⟩
  · rw [enumD_len] at hi
    exact ⟨vs, s.tupH (e _ _ ha), by rw [dx.len]; exact hi.symm⟩
theorem itd_enL {G : Hp} {a : Addr} {vs : List V} {xs : List Dt} (ha : G a = some (.lst vs)) (dx : Dens K G vs xs) : ItD K (Ite K a) (enumD xs) G := by
  refine ⟨fun i G1 R F H e s hi => ?_, fun i G1 R F H d e s hi x H' y => ?_, fun i G1 R F H e s hi => ?_⟩
  · rw [enumD_len] at hi
    obtain ⟨v, hv, _⟩ := dx.get (List.getElem?_eq_getElem hi)
    exact ⟨vs, v, s.lstH (e _ _ ha), hv⟩
  · obtain ⟨T, p, rfl, nT, rfl, f1⟩ := y
    obtain ⟨c1, e1, rfl⟩ := enumD_get hi
    obtain ⟨v, hv, dv⟩ := dx.get e1
    have z1 := f1 vs (s.lstH (e _ _ ha))
    rw [hv] at z1
    cases z1
    exact ⟨_, Ex.new1 s nT, s.new nT, .tup upd_same (.cons (.int _) (.cons ((dv.mono e).mono (Ex.new1 s nT)) .nil))⟩
  · rw [enumD_len] at hi
    exact ⟨vs, s.lstH (e _ _ ha), by rw [dx.len]; omega⟩
theorem ei_enT {c : Nat} {tr : TA} {Qs : List Dt → Prop} (h : EvA K I c tr Δ Qs) (hp : ∀ ds, Qs ds → ∃ xs, ds = [.tup xs] ∧ Ps (enumD xs)) : EvI K I c (EnT.iEnT K tr) Δ Ps := fun m σ G F R H mb e i s Q q =>
  h m σ G F R H mb e i s _ fun vs ds G1 R1 H1 e1 i1 s1 d1 p1 => by
    obtain ⟨xs, rfl, hP⟩ := hp ds p1
    cases d1 with
    | cons da dn =>
      cases dn
      cases da with
      | tup ha dx => exact ⟨_, _, rfl, s1.tupH ha, q _ _ G1 R1 H1 e1 i1 s1 (itd_enT ha dx) hP⟩
theorem ei_enL {c : Nat} {tr : TA} {Qs : List Dt → Prop} (h : EvA K I c tr Δ Qs) (hp : ∀ ds, Qs ds → ∃ xs, ds = [.lst xs] ∧ Ps (enumD xs)) : EvI K I c (iEnum K tr) Δ Ps := fun m σ G F R H mb e i s Q q =>
  h m σ G F R H mb e i s _ fun vs ds G1 R1 H1 e1 i1 s1 d1 p1 => by
    obtain ⟨xs, rfl, hP⟩ := hp ds p1
    cases d1 with
    | cons da dn =>
      cases dn
      cases da with
      | lst ha dx => exact ⟨_, _, rfl, s1.lstH ha, q _ _ G1 R1 H1 e1 i1 s1 (itd_enL ha dx) hP⟩
end
end Fw
set_option Elab.async false
set_option linter.all false
set_option maxRecDepth 100000
set_option maxHeartbeats 4000000
namespace Fw
open PySem PySem.Spec PyProof.Rows L2
open Evl (Ex)
/-! ### calls of the text's own defs -/
structure Cal (P : Program) (w : World) (K : PySem.W.Frag) (mg : Str → Option Value) (base : Heap) (k : Nat) (x : Str) (ps : List Str) (sp : Sp) : Prop where
  ex : ∃ (f : Addr) (fd : FuncData), FnOk P w K mg base CX0 k f fd ps sp ∧ mg x = some (.ref f) ∧ PySem.W.keepIn K (.ref f) = true ∧ Binds K fd ps []
theorem cal_mk {P : Program} {w : World} {K : PySem.W.Frag} {mg : Str → Option Value} {base : Heap} {k : Nat} {x qual : Str} {ps : List Str} {sp : Sp} {st : Stmt} {f : Addr} {fd : FuncData} (F : Fun K x qual st f fd) (G : FnOk P w K mg base CX0 k f fd ps sp) (hm : mg x = some (.ref f)) (b : Binds K fd ps []) : Cal P w K mg base k x ps sp :=
  ⟨f, fd, G, hm, F.kp, b⟩
theorem pe_cal {X : Cx} {k : Nat} {x : Str} {ps : List Str} {sp : Sp} {e : Expr} {es : List Expr} {t : TA} {p pos : Pos} (C : Cal X.prog X.w X.K X.mg X.base k x ps sp) (hr : Room k X.A) (hg : Gl X x) (ha : PA X (e :: es) t)
    (h1 : (x == ("__debug__" : Str)) = false := by decide) (h2 : starEach (e :: es) X.env = (false, eval e X.env) :: starEach es X.env := by rfl) (h3 : (backTo pos (starEach es X.env)).any (·.1) = false := by rfl) :
    PE X (.Call (.Name x p) (e :: es) [] pos) (tCall sp [] E0 t) := by
  obtain ⟨f, fd, F, hm, hk, hb⟩ := C.ex
  exact pe_call F hr hg hm hk hb .nil pass0 ha h1 h2 h3
theorem pe_gint {X : Cx} {x : Str} {n : Int} {pos : Pos} (h : ∃ t, X.mg x = some (.int n t)) (hg : Gl X x) (hd : (x == ("__debug__" : Str)) = false := by decide) : PE X (.Name x pos) (tC (.int n)) := by
  obtain ⟨t, e⟩ := h
  exact pe_glob hg e ⟨t, rfl⟩ hd
/-! ### values that are data throughout -/
mutual
def valD : Dt → Bool
  | .ptr _ => false
  | .cls _ => false
  | .scr _ => false
  | .lst xs => valDs xs
  | .tup xs => valDs xs
  | .non | .bl _ | .int _ | .str _ | .dic => true
def valDs : List Dt → Bool
  | [] => true
  | x :: xs => valD x && valDs xs
end
theorem valD.plain : ∀ {d : Dt}, valD d = true → plainD d = true
  | .ptr _, h => h
  | .cls _, h => h
  | .scr _, h => h
  | .lst _, _ => rfl
  | .tup _, _ => rfl
  | .non, _ => rfl
  | .bl _, _ => rfl
  | .int _, _ => rfl
  | .str _, _ => rfl
  | .dic, _ => rfl
theorem valDs_mem : ∀ {xs : List Dt}, valDs xs = true → ∀ x ∈ xs, valD x = true
  | [], _, _, h => by cases h
  | y :: ys, h, x, hx => by
    have h2 : (valD y && valDs ys) = true := h
    rw [Bool.and_eq_true] at h2
    rcases List.mem_cons.mp hx with e | e
    · subst e
      exact h2.1
    · exact valDs_mem h2.2 x e
theorem valD_tup {xs : List Dt} (h : valD (.tup xs) = true) : ∀ x ∈ xs, valD x = true := valDs_mem h
theorem valDs_of : ∀ {xs : List Dt}, (∀ x ∈ xs, valD x = true) → valDs xs = true
  | [], _ => rfl
  | y :: ys, h => by
    show (valD y && valDs ys) = true
    rw [h y List.mem_cons_self, valDs_of fun x hx => h x (List.mem_cons_of_mem _ hx)]
    rfl
/-! ### levels, settings, tables -/
abbrev TOPI : Int := 1000000000000
def isIntD : Dt → Bool
  | .int _ => true
  | _ => false
def isLevD : Dt → Bool
  | .int i => decide (0 ≤ i) && decide (i ≤ TOPI)
  | _ => false
def isTupN (d : Dt) (n : Int) : Bool := match d with
  | .tup xs => decide ((xs.length : Int) = n)
  | _ => false
def areLevD (d : Dt) (n : Int) : Bool := match d with
  | .tup xs => decide ((xs.length : Int) = n) && xs.all isLevD
  | _ => false
abbrev vec (v : List Int) : Dt := .tup (iL v)
abbrev tbl (t : List (List Int)) : Dt := .tup (t.map fun r => vec r)
theorem kit_int {d : Dt} (h : plainD d = true) : kitB (tyN d) "int" = some (isIntD d || (match d with | .bl _ => true | _ => false)) := by
  cases d <;> first | (cases h; done) | (simp only [tyN, isIntD]; decide +kernel)
theorem kit_bool {d : Dt} (h : plainD d = true) : kitB (tyN d) "bool" = some (match d with | .bl _ => true | _ => false) := by
  cases d <;> first | (cases h; done) | (simp only [tyN]; decide +kernel)
def isTupD : Dt → Bool
  | .tup _ => true
  | _ => false
theorem kit_tup {d : Dt} (h : plainD d = true) : kitB (tyN d) "tuple" = some (isTupD d) := by
  cases d <;> first | (cases h; done) | (simp only [tyN, isTupD]; decide +kernel)
end Fw
set_option Elab.async false
set_option linter.all false
set_option maxRecDepth 100000
set_option maxHeartbeats 4000000
namespace Fw
open PySem PySem.Spec PyProof.Rows L2
open Evl (Ex)
/-! ### the same where the parts are known -/
section
variable {K : PySem.W.Frag} {I : Res} {Δ : Sl} {ta tb tc te : TE} {t u : TT} {P : Dt → Prop} {x y z : Dt} {c1 c2 c3 : Nat} {tr : TA} {ds es : List Dt} {b : Bool} {N : Sl → Prop} {Rt : Dt → Prop} {s1 s2 s3 : TS}
theorem e_op {r : R2} (ha : Ev K I c1 ta Δ (· = x)) (hb : Ev K I c2 tb Δ (· = y)) (hr : OpD K r x y P) : Ev K I (c1 + c2) (tOp r ta tb) Δ P := ev_op ha hb fun _ _ e1 e2 => by
  subst e1 e2
  exact hr
theorem e_un {r : V → Hp → VK → Prop} (ha : Ev K I c1 ta Δ (· = x)) (hr : UnD K r x P) : Ev K I c1 (tUn r ta) Δ P := ev_un ha fun _ e => by
  subst e
  exact hr
theorem a_nil : EvA K I 0 tNil Δ (· = []) := ea_nil
theorem a_cons (ha : Ev K I c1 ta Δ (· = x)) (hr : EvA K I c2 tr Δ (· = es)) : EvA K I (c1 + c2) (tCons ta tr) Δ (· = x :: es) := fun m σ G F R H mb e i s Q q =>
  ea_cons ha hr m σ G F R H mb e i s Q fun vs ds G' R' H' e' i' s' d' p' => by
    obtain ⟨_, _, rfl, rfl, rfl⟩ := p'
    exact q _ _ G' R' H' e' i' s' d' rfl
theorem e_cb {r : List V → Hp → VK → Prop} (ha : EvA K I c1 tr Δ (· = ds)) (hr : CallD K r ds P) : Ev K I c1 (tCB r tr) Δ P := ev_cb ha fun _ e => by
  subst e
  exact hr
theorem e_call {E : XK} {Io : List Dt → Res → Prop} {S : Spec} (ha : EvA K I c1 tr Δ (· = ds)) (hi : Io ds I) (hs : S ds c2 P) : Ev K I (c1 + c2) (tCall (mk K Io S) [] E tr) Δ P := ev_call ha fun _ e => by
  subst e
  exact ⟨hi, hs⟩
theorem e_tup (ha : EvA K I c1 tr Δ (· = ds)) (hl : ds.length ≤ sizeLine) : Ev K I c1 (tTup tr) Δ (· = .tup ds) := ev_tup ha fun _ e => by
  subst e
  exact ⟨hl, rfl⟩
theorem e_lst (ha : EvA K I c1 tr Δ (· = ds)) (hl : ds.length ≤ sizeLine) : Ev K I c1 (tLst tr) Δ (· = .lst ds) := ev_lst ha fun _ e => by
  subst e
  exact ⟨hl, rfl⟩
theorem t_test (h : Ev K I c1 te Δ (· = .bl b)) : EvT K I c1 (tTest te) Δ (· = b) := et_test h fun _ e => ⟨b, e, rfl⟩
theorem t_B (h : Ev K I c1 te Δ (· = .bl b)) : EvT K I c1 (tB te) Δ (· = b) := et_test h fun _ e => ⟨b, e, rfl⟩
theorem t_not (h : EvT K I c1 t Δ (· = b)) : EvT K I c1 (tNot t) Δ (· = !b) := et_not h fun _ e => by
  subst e
  rfl
theorem t_and {b2 : Bool} (h1 : EvT K I c1 t Δ (· = b)) (h2 : b = true → EvT K I c2 u Δ (· = b2)) : EvT K I (c1 + c2) (tAnd t u) Δ (· = (b && b2)) :=
  et_and h1 (fun e => (h2 e.symm).imp fun _ e2 => by
    subst e2
    rw [← e]
    rfl) (fun e => by rw [← e]; rfl)
theorem t_or {b2 : Bool} (h1 : EvT K I c1 t Δ (· = b)) (h2 : b = false → EvT K I c2 u Δ (· = b2)) : EvT K I (c1 + c2) (tOr t u) Δ (· = (b || b2)) :=
  et_or h1 (fun e => (h2 e.symm).imp fun _ e2 => by
    subst e2
    rw [← e]
    rfl) (fun e => by rw [← e]; rfl)
theorem e_and {b2 : Bool} (h1 : Ev K I c1 ta Δ (· = .bl b)) (h2 : b = true → Ev K I c2 tb Δ (· = .bl b2)) : Ev K I (c1 + c2) (tAndV ta tb) Δ (· = .bl (b && b2)) :=
  ev_andV (B := (· = b)) h1 (fun _ e => ⟨b, e, rfl⟩) (fun e => (h2 e.symm).imp fun _ e2 => by
    subst e2
    rw [← e]
    rfl) (fun e => by rw [← e]; rfl)
theorem e_or {b2 : Bool} (h1 : Ev K I c1 ta Δ (· = .bl b)) (h2 : b = false → Ev K I c2 tb Δ (· = .bl b2)) : Ev K I (c1 + c2) (tOrV ta tb) Δ (· = .bl (b || b2)) :=
  ev_orV (B := (· = b)) h1 (fun _ e => ⟨b, e, rfl⟩) (fun e => (h2 e.symm).imp fun _ e2 => by
    subst e2
    rw [← e]
    rfl) (fun e => by rw [← e]; rfl)
theorem e_not (h1 : Ev K I c1 ta Δ (· = .bl b)) : Ev K I c1 (tNotV ta) Δ (· = .bl !b) := ev_notV h1 fun _ e => ⟨b, e, rfl⟩
theorem e_if (h1 : EvT K I c1 t Δ (· = b)) (h2 : b = true → Ev K I c2 ta Δ P) (h3 : b = false → Ev K I c3 tb Δ P) : Ev K I (c1 + (c2 + c3)) (tIf t ta tb) Δ P := ev_if h1 (fun e => h2 e.symm) (fun e => h3 e.symm)
theorem e_chain {r r' : R2} {b2 : Bool} (ha : Ev K I c1 ta Δ (· = x)) (hb : Ev K I c2 tb Δ (· = y)) (hr : OpD K r x y (· = .bl b)) (hc : b = true → Ev K I c3 tc Δ (· = z)) (hr' : b = true → OpD K r' y z (· = .bl b2)) : Ev K I (c1 + c2 + c3) (tChain r r' ta tb tc) Δ (· = .bl (b && b2)) :=
  ev_chain (B := (· = b)) (P3 := (· = z)) ha hb (fun _ _ e1 e2 => by
    subst e1 e2
    exact fun v w G F R H s h1 h2 Q q => hr v w G F R H s h1 h2 Q fun zz d G' H' a1 a2 a3 a4 => q zz d G' H' a1 a2 a3 ⟨b, a4, rfl⟩) (fun e => hc e.symm) (fun _ _ e1 e2 e3 => by
    subst e1 e2
    exact fun v w G F R H s h1 h2 Q q => hr' e3.symm v w G F R H s h1 h2 Q fun zz d G' H' a1 a2 a3 a4 => q zz d G' H' a1 a2 a3 (by rw [a4, ← e3]; rfl)) (fun e => by rw [← e]; rfl)
/-- a chain as a test -/
theorem t_chain {r r' : R2} {b2 : Bool} (ha : Ev K I c1 ta Δ (· = x)) (hb : Ev K I c2 tb Δ (· = y)) (hr : OpD K r x y (· = .bl b)) (hc : b = true → Ev K I c3 tc Δ (· = z)) (hr' : b = true → OpD K r' y z (· = .bl b2)) : EvT K I (c1 + c2 + c3) (tTest (tChain r r' ta tb tc)) Δ (· = (b && b2)) :=
  t_test (e_chain ha hb hr hc hr')
theorem o_some {n : Int} (h : Ev K I c1 te Δ (· = .int n)) : EvO K I c1 (tPart te) Δ (· = some n) := eo_some h fun _ e => ⟨n, e, rfl⟩
theorem e_slT {tl th : TO} {lo hi : Option Int} {xs : List Dt} (ha : Ev K I c1 te Δ (· = .tup xs)) (hl : EvO K I c2 tl Δ (· = lo)) (hh : EvO K I c3 th Δ (· = hi)) : Ev K I (c1 + c2 + c3) (tSl (rSlA K) te tl th) Δ (· = .tup (cutD xs lo hi)) := ev_sl ha hl hh fun _ _ _ e1 e2 e3 => by
  subst e1 e2 e3
  exact sld_tup
theorem e_slL {tl th : TO} {lo hi : Option Int} {xs : List Dt} (ha : Ev K I c1 te Δ (· = .lst xs)) (hl : EvO K I c2 tl Δ (· = lo)) (hh : EvO K I c3 th Δ (· = hi)) : Ev K I (c1 + c2 + c3) (tSl (rSlL K) te tl th) Δ (· = .lst (cutD xs lo hi)) := ev_sl ha hl hh fun _ _ _ e1 e2 e3 => by
  subst e1 e2 e3
  exact sld_lst
theorem v_if (h1 : EvT K I c1 t Δ (· = b)) (h2 : b = true → Sv K I c2 s1 Δ N Rt) (h3 : b = false → Sv K I c3 s2 Δ N Rt) : Sv K I (c1 + (c2 + c3)) (tIfS t s1 s2) Δ N Rt := sv_if h1 (fun e => h2 e.symm) (fun e => h3 e.symm)
theorem v_ifs (h1 : EvT K I c1 t Δ (· = b)) (h2 : b = true → Sv K I c2 (tSeq s1 s3) Δ N Rt) (h3 : b = false → Sv K I c3 (tSeq s2 s3) Δ N Rt) : Sv K I (c1 + (c2 + c3)) (tSeq (tIfS t s1 s2) s3) Δ N Rt := sv_ifs h1 (fun e => h2 e.symm) (fun e => h3 e.symm)
/-- a raise that is not met -/
theorem v_no {s : TS} {c : Nat} (h : False) : Sv K I c s Δ N Rt := h.elim
theorem v_set {j : Nat} {w : TS} (h : Ev K I c1 te Δ P) (h2 : ∀ d, P d → Sv K I c2 w (Δ.set j (some d)) N Rt) : Sv K I (c1 + c2) (tSeq (tAsg te (gName j)) w) Δ N Rt := sv_seq (sv_set h) fun _ e => by
  obtain ⟨d, hd, rfl⟩ := e
  exact h2 d hd
theorem i_list {xs : List Dt} (h : Ev K I c1 te Δ (· = .lst xs)) : EvI K I c1 (iList K te) Δ (· = xs) := ei_list h fun _ e => ⟨xs, e, rfl⟩
theorem i_tup {xs : List Dt} (h : Ev K I c1 te Δ (· = .tup xs)) : EvI K I c1 (iTup K te) Δ (· = xs) := ei_tup h fun _ e => ⟨xs, e, rfl⟩
theorem i_rng {n : Int} (h : EvA K I c1 tr Δ (· = [.int n])) (h1 : -(2 ^ 62) ≤ n) (h2 : n < 2 ^ 62) : EvI K I c1 (iRng1 tr) Δ (· = rngD 0 n.toNat) := ei_rng1 h fun _ e => ⟨n, e, h1, h2, rfl⟩
theorem i_zip {xs ys : List Dt} (h : EvA K I c1 tr Δ (· = [.tup xs, .tup ys])) : EvI K I c1 (RZ.iZipA K tr) Δ (· = zipD xs ys) := ei_zip h fun _ e => ⟨xs, ys, .inl e, rfl⟩
theorem i_enT {xs : List Dt} (h : EvA K I c1 tr Δ (· = [.tup xs])) : EvI K I c1 (EnT.iEnT K tr) Δ (· = enumD xs) := ei_enT h fun _ e => ⟨xs, e, rfl⟩
/-- [e for x in its if ..] of known parts: f the answer for each item -/
theorem e_lc {c0 ct ce n : Nat} {wi : TI} {g : TG} {tt : TT} {vs js : List Nat} {its : List Dt} (hi : EvI K I c0 wi Δ (· = its)) (hl : its.length ≤ n) (hn : n ≤ sizeLine) (hj : ∀ j ∈ js, j ∈ vs) (f : Dt → Sl → Sl) (a : Dt → Option Dt)
    (hs : ∀ d ∈ its, GD K g js d (f d) ∧ ∃ b : Bool, EvT K I ct tt (f d (wipeD Δ vs)) (· = b) ∧ (b = false → a d = none) ∧ (b = true → Ev K I ce te (f d (wipeD Δ vs)) (fun e => a d = some e))) : Ev K I (c0 + n * (ct + ce)) (tLc wi g tt te vs) Δ (· = .lst (its.filterMap a)) :=
  ev_lc hi (fun _ e => by subst e; exact hl) hn hj f (fun d o => o = a d) (fun _ d e hd => by
    subst e
    obtain ⟨g1, b, g2, g3, g4⟩ := hs d hd
    exact ⟨g1, _, g2, fun e => (g3 e.symm).symm, fun e => (g4 e.symm).imp fun _ z => z.symm⟩) (fun _ os e h => by
    subst e
    rw [h.fn fun a b _ z => z, List.filterMap_map]
    rfl)
end
end Fw
set_option Elab.async false
set_option linter.all false
set_option maxRecDepth 100000
set_option maxHeartbeats 4000000
namespace Fw
open PySem PySem.Spec PyProof.Rows L2
open Evl (Ex)
section
variable {K : PySem.W.Frag} {I : Res} {Δ : Sl} {te : TE} {P : Dt → Prop} {c1 c2 c3 : Nat}
theorem Ev.to {x y : Dt} (h : Ev K I c1 te Δ (· = x)) (e : x = y) : Ev K I c1 te Δ (· = y) := e ▸ h
theorem e_map {c0 ce n : Nat} {wi : TI} {g : TG} {vs js : List Nat} {its : List Dt} (f : Dt → Sl → Sl) (a : Dt → Dt) (hi : EvI K I c0 wi Δ (· = its)) (hl : its.length ≤ n) (hn : n ≤ sizeLine) (hj : ∀ j ∈ js, j ∈ vs)
    (hs : ∀ d ∈ its, GD K g js d (f d) ∧ Ev K I ce te (f d (wipeD Δ vs)) (· = a d)) : Ev K I (c0 + n * (0 + ce)) (tLc wi g tYes te vs) Δ (· = .lst (its.map a)) :=
  (e_lc hi hl hn hj f (fun d => some (a d)) fun d hd => ⟨(hs d hd).1, true, et_yes, fun e => (by cases e), fun _ => (hs d hd).2.imp fun _ e => by rw [e]⟩).imp fun _ e => by
    rw [e, List.filterMap_eq_map']
/-- drawn elements -/
theorem e_draw {c0 ce n : Nat} {wi : TI} {g : TG} {vs js : List Nat} {its : List Dt} (f : Dt → Sl → Sl) (Pe : Dt → Prop) (hi : EvI K I c0 wi Δ (· = its)) (hl : its.length ≤ n) (hn : n ≤ sizeLine) (hj : ∀ j ∈ js, j ∈ vs)
    (hs : ∀ d ∈ its, GD K g js d (f d) ∧ Ev K I ce te (f d (wipeD Δ vs)) Pe) : Ev K I (c0 + n * (0 + ce)) (tLc wi g tYes te vs) Δ (fun r => ∃ xs : List Dt, r = .lst xs ∧ xs.length = its.length ∧ ∀ x ∈ xs, Pe x) :=
  ev_lc (St := fun _ o => ∃ x, o = some x ∧ Pe x) hi (fun _ e => by subst e; exact hl) hn hj f (fun its' d e hd => by
    subst e
    exact ⟨(hs d hd).1, _, et_yes, fun e => (by cases e), fun _ => (hs d hd).2.imp fun x p => ⟨x, rfl, p⟩⟩) fun its' os e h => by
    subst e
    refine ⟨_, rfl, ?_, fun x hx => ?_⟩
    · have hl := h.len
      have key : ∀ {as : List Dt} {os : List (Option Dt)}, All2 (fun _ o => ∃ x, o = some x ∧ Pe x) as os → (os.filterMap id).length = os.length := fun h => by
        induction h with
        | nil => rfl
        | cons p _ ih =>
          obtain ⟨x, rfl, _⟩ := p
          simp only [List.filterMap_cons, id, List.length_cons, ih]
      rw [key h, ← hl]
    · obtain ⟨o, ho, e⟩ := List.mem_filterMap.mp hx
      obtain ⟨_, _, y, rfl, p⟩ := h.mem o ho
      cases e
      exact p
end
/-! ### numbers -/
def mx : List Int → Int
  | [] => 0
  | x :: xs => xs.foldl max x
theorem foldl_max : ∀ (xs : List Int) (a : Int), (xs.foldl max a = a ∨ xs.foldl max a ∈ xs) ∧ a ≤ xs.foldl max a ∧ ∀ y ∈ xs, y ≤ xs.foldl max a
  | [], a => ⟨.inl rfl, Int.le_refl _, fun y h => by cases h⟩
  | x :: xs, a => by
    obtain ⟨h1, h2, h3⟩ := foldl_max xs (max a x)
    show (xs.foldl max (max a x) = a ∨ xs.foldl max (max a x) ∈ x :: xs) ∧ a ≤ xs.foldl max (max a x) ∧ ∀ y ∈ x :: xs, y ≤ xs.foldl max (max a x)
    refine ⟨?_, by omega, fun y hy => ?_⟩
    · rcases h1 with h1 | h1
      · by_cases h : a ≤ x
        · right
          rw [h1, Int.max_eq_right h]
          exact List.mem_cons_self
        · left
          rw [h1, Int.max_eq_left (by omega)]
      · exact .inr (List.mem_cons_of_mem _ h1)
    · rcases List.mem_cons.mp hy with e | e
      · subst e
        omega
      · exact h3 y e
theorem mx_mem {xs : List Int} (h : xs ≠ []) : mx xs ∈ xs := by
  cases xs with
  | nil => exact absurd rfl h
  | cons x xs =>
    rcases (foldl_max xs x).1 with e | e
    · show xs.foldl max x ∈ x :: xs
      rw [e]
      exact List.mem_cons_self
    · exact List.mem_cons_of_mem _ e
theorem mx_ge {xs : List Int} : ∀ y ∈ xs, y ≤ mx xs := by
  cases xs with
  | nil => intro y h; cases h
  | cons x xs =>
    intro y hy
    rcases List.mem_cons.mp hy with e | e
    · subst e
      exact (foldl_max xs y).2.1
    · exact (foldl_max xs x).2.2 y e
theorem mx_of {xs : List Int} {m : Int} (h1 : m ∈ xs) (h2 : ∀ y ∈ xs, y ≤ m) : m = mx xs :=
  Int.le_antisymm (mx_ge m h1) (h2 _ (mx_mem (List.ne_nil_of_mem h1)))
theorem mx_le {xs : List Int} {c : Int} (h0 : 0 ≤ c) (h : ∀ y ∈ xs, y ≤ c) : mx xs ≤ c := by
  by_cases e : xs = []
  · subst e
    exact h0
  · exact h _ (mx_mem e)
def mnD (xs : List Int) (d : Int) : Int := match xs with
  | [] => d
  | x :: xs => xs.foldl min x
theorem foldl_min : ∀ (xs : List Int) (a : Int), (xs.foldl min a = a ∨ xs.foldl min a ∈ xs) ∧ xs.foldl min a ≤ a ∧ ∀ y ∈ xs, xs.foldl min a ≤ y
  | [], a => ⟨.inl rfl, Int.le_refl _, fun y h => by cases h⟩
  | x :: xs, a => by
    obtain ⟨h1, h2, h3⟩ := foldl_min xs (min a x)
    show (xs.foldl min (min a x) = a ∨ xs.foldl min (min a x) ∈ x :: xs) ∧ xs.foldl min (min a x) ≤ a ∧ ∀ y ∈ x :: xs, xs.foldl min (min a x) ≤ y
    refine ⟨?_, by omega, fun y hy => ?_⟩
    · rcases h1 with h1 | h1
      · by_cases h : x ≤ a
        · right
          rw [h1, Int.min_eq_right h]
          exact List.mem_cons_self
        · left
          rw [h1, Int.min_eq_left (by omega)]
      · exact .inr (List.mem_cons_of_mem _ h1)
    · rcases List.mem_cons.mp hy with e | e
      · subst e
        omega
      · exact h3 y e
theorem mnD_mem {xs : List Int} {d : Int} (h : xs ≠ []) : mnD xs d ∈ xs := by
  cases xs with
  | nil => exact absurd rfl h
  | cons x xs =>
    rcases (foldl_min xs x).1 with e | e
    · show xs.foldl min x ∈ x :: xs
      rw [e]
      exact List.mem_cons_self
    · exact List.mem_cons_of_mem _ e
theorem mnD_le {xs : List Int} {d : Int} : ∀ y ∈ xs, mnD xs d ≤ y := by
  cases xs with
  | nil => intro y h; cases h
  | cons x xs =>
    intro y hy
    rcases List.mem_cons.mp hy with e | e
    · subst e
      exact (foldl_min xs y).2.1
    · exact (foldl_min xs x).2.2 y e
theorem mnD_of {xs : List Int} {m d : Int} (h1 : m ∈ xs) (h2 : ∀ y ∈ xs, m ≤ y) : m = mnD xs d :=
  Int.le_antisymm (h2 _ (mnD_mem (List.ne_nil_of_mem h1))) (mnD_le m h1)
def rowLev (r v : List Int) : Int := mx (List.zipWith min r v)
def levs (t : List (List Int)) (v : List Int) : List Int := t.map fun r => rowLev r v
structure isT (n : Nat) (t : List (List Int)) : Prop where
  ne : t ≠ []
  le : t.length ≤ 6
  n1 : 1 ≤ n
  n6 : n ≤ 6
  row : ∀ r ∈ t, r.length = n
  lev : ∀ r ∈ t, ∀ x ∈ r, 0 ≤ x ∧ x ≤ TOPI
structure isV (n : Nat) (v : List Int) : Prop where
  len : v.length = n
  lev : ∀ x ∈ v, 0 ≤ x ∧ x ≤ TOPI
theorem val_vec (v : List Int) : valD (vec v) = true := valDs_of fun x hx => by
  obtain ⟨i, _, rfl⟩ := List.mem_map.mp hx
  rfl
theorem areLev_vec {v : List Int} {n : Nat} : areLevD (vec v) n = true ↔ isV n v := by
  show (decide (((iL v).length : Int) = n) && (iL v).all isLevD) = true ↔ _
  rw [Bool.and_eq_true, decide_eq_true_eq, List.length_map, List.all_map, List.all_eq_true]
  constructor
  · intro ⟨h1, h2⟩
    refine ⟨by omega, fun x hx => ?_⟩
    have h3 : (decide (0 ≤ x) && decide (x ≤ TOPI)) = true := h2 x hx
    rw [Bool.and_eq_true, decide_eq_true_eq, decide_eq_true_eq] at h3
    exact h3
  · intro h
    refine ⟨by rw [h.len], fun x hx => ?_⟩
    show (decide (0 ≤ x) && decide (x ≤ TOPI)) = true
    rw [Bool.and_eq_true, decide_eq_true_eq, decide_eq_true_eq]
    exact h.lev x hx
end Fw
set_option Elab.async false
set_option linter.all false
set_option maxRecDepth 100000
set_option maxHeartbeats 4000000
namespace Fw
open PySem PySem.Spec PyProof.Rows L2
section
variable (K : PySem.W.Frag) {X : Cx}
theorem ixs (h : X.K = K := by rfl) : IxR X (rIx K) := h ▸ ix_seq
theorem lenK (h : X.K = K := by rfl) : CallR X (.builtin "len") (rLenQ K) := h ▸ call_lenQ
theorem listK (h : X.K = K := by rfl) : CallR X (.type "list") (rListQ K) := h ▸ call_listQ
theorem tupleK (h : X.K = K := by rfl) : CallR X (.type "tuple") (rTupleQ K) := h ▸ call_tupleQ
theorem allK (hc : X.calm = true := by rfl) (h : X.K = K := by rfl) : CallR X (.builtin "all") (rAll K) := h ▸ cr_all hc
theorem anyK (hc : X.calm = true := by rfl) (h : X.K = K := by rfl) : CallR X (.builtin "any") (rAny K) := h ▸ cr_any hc
theorem sumK (hc : X.calm = true := by rfl) (h : X.K = K := by rfl) : CallR X (.builtin "sum") (rSum K) := h ▸ cr_sum hc
theorem maxK (hc : X.calm = true := by rfl) (h : X.K = K := by rfl) : CallR X (.builtin "max") (rMax K) := h ▸ cr_max hc
theorem minK (hc : X.calm = true := by rfl) (h : X.K = K := by rfl) : CallR X (.builtin "min") (rMin K) := h ▸ cr_min hc
theorem minDK (hc : X.calm = true := by rfl) (h : X.K = K := by rfl) : CallRK X (.builtin "min") [Str.ofString "default"] (rMinD K) := h ▸ cr_minD hc
theorem isiK (h : X.K = K := by rfl) : CallR X (.builtin "isinstance") (rIsi K) := h ▸ call_isi
theorem isiTK (h : X.K = K := by rfl) : CallR X (.builtin "isinstance") (rIsiT K) := h ▸ call_isiT
theorem slT (h : X.K = K := by rfl) : SlR X (rSlA K) := h ▸ sl_tupA
theorem slL (h : X.K = K := by rfl) : SlR X (rSlL K) := h ▸ sl_list
theorem catT (h : X.K = K := by rfl) : OpR X (binaryOp .Add) (rCatA K) := h ▸ op_catA
theorem repT (h : X.K = K := by rfl) : OpR X (binaryOp .Mult) (rRepT K) := h ▸ op_repT
theorem eqK (hu : X.A.units + 64 < cLine) (h : X.K = K := by rfl) : OpR X (compareOp .Eq) (rEqD K) := h ▸ op_eqD hu
theorem neK (hu : X.A.units + 64 < cLine) (h : X.K = K := by rfl) : OpR X (compareOp .NotEq) (rNeD K) := h ▸ op_neD hu
theorem piL {tg l : Expr} {tl : TE} (hl : PE X l tl) (h : X.K = K := by rfl) : PI X tg l (iList K tl) := h ▸ pi_list hl
theorem piT {tg l : Expr} {tl : TE} (hl : PE X l tl) (h : X.K = K := by rfl) : PI X tg l (iTup K tl) := h ▸ pi_tup hl
theorem piZ {e e2 : Expr} {ta : TA} {p pos tpos : Pos} {elts : List Expr} {kk : Nat} (hg : Gl X "zip") (hm : X.mg "zip" = none) (ha : PA X [e, e2] ta) (h : X.K = K := by rfl)
    (h1 : starEach [e, e2] X.env = (false, eval e X.env) :: starEach [e2] X.env := by rfl) (h2 : (backTo pos (starEach [e2] X.env)).any (·.1) = false := by rfl) :
    PI X (.Tuple elts kk tpos) (.Call (.Name "zip" p) [e, e2] [] pos) (RZ.iZipA K ta) := h ▸ RZ.pi_zipA hg hm ha h1 h2
theorem piE {e : Expr} {ta : TA} {p pos tpos : Pos} {elts : List Expr} {kk : Nat} (hg : Gl X "enumerate") (hm : X.mg "enumerate" = none) (ha : PA X [e] ta) (h : X.K = K := by rfl) (h1 : starEach [e] X.env = [(false, eval e X.env)] := by rfl) :
    PI X (.Tuple elts kk tpos) (.Call (.Name "enumerate" p) [e] [] pos) (EnT.iEnT K ta) := h ▸ EnT.pi_enT hg hm ha h1
theorem piEL {e : Expr} {ta : TA} {p pos tpos : Pos} {elts : List Expr} {kk : Nat} (hg : Gl X "enumerate") (hm : X.mg "enumerate" = none) (ha : PA X [e] ta) (h : X.K = K := by rfl) (h1 : starEach [e] X.env = [(false, eval e X.env)] := by rfl) :
    PI X (.Tuple elts kk tpos) (.Call (.Name "enumerate" p) [e] [] pos) (iEnum K ta) := h ▸ pi_enum hg hm ha h1
end
end Fw
set_option Elab.async false
set_option linter.all false
set_option maxRecDepth 100000
set_option maxHeartbeats 4000000
namespace Fw
open PySem PySem.Spec PyProof.Rows L2
open Evl (Ex)
/-! ### the deck -/
structure DkAt (a : Addr) (m : Nat) (R : Hp) (b c : Addr) (L0 L1 : List Int) (n : Nat) : Prop where
  top : R a = some (.lst [.ref b, .ref c, .int (n : Nat)])
  big : R b = some (.lst (L0.map V.int))
  all : R c = some (.lst (L1.map V.int))
  bc : b ≠ c
  ne : L1 ≠ []
  l0 : L0.length ≤ 1000
  l1 : L1.length ≤ 1000
  pos : ∀ x ∈ L1, 0 ≤ x
  le : n ≤ m
def DkI (a : Addr) : Res where
  p := fun m R => ∃ b c L0 L1 n, DkAt a m R b c L0 L1 n
  mono := fun h ⟨b, c, L0, L1, n, d⟩ => ⟨b, c, L0, L1, n, { d with le := Nat.le_trans d.le h }⟩
section
variable {G R F H : Hp} {p : Addr} {o : HO}
/-- what is owned changes -/
theorem Sp3.setR {o' : HO} (s : Sp3 G R F H) (h : R p = some o) : Sp3 G (upd R p o') F (upd H p o') := by
  have hg : G p = none := by
    rcases s.gr p with z | z
    · exact z
    · rw [h] at z
      cases z
  have hf : F p = none := by
    rcases s.rf p with z | z
    · rw [h] at z
      cases z
    · exact z
  refine ⟨fun a u e => ?_, fun a u e => ?_, fun a u e => ?_, fun a => ?_, s.gf, fun a => ?_⟩
  · have ha : a ≠ p := ne_of_none e hg
    rw [upd_ne ha]
    exact s.g a u e
  · by_cases ha : a = p
    · subst ha
      rw [upd_same] at e ⊢
      exact e
    · rw [upd_ne ha] at e ⊢
      exact s.r a u e
  · have ha : a ≠ p := ne_of_none e hf
    rw [upd_ne ha]
    exact s.f a u e
  · by_cases ha : a = p
    · subst ha
      exact .inl hg
    · rw [upd_ne ha]
      exact s.gr a
  · by_cases ha : a = p
    · subst ha
      exact .inr hf
    · rw [upd_ne ha]
      exact s.rf a
/-- an object that nobody keeps -/
theorem Sp3.junk (s : Sp3 G R F H) (h : H p = none) : Sp3 G R F (upd H p o) := by
  refine ⟨fun a u e => ?_, fun a u e => ?_, fun a u e => ?_, s.gr, s.gf, s.rf⟩
  · rw [upd_ne (ne_of_none (s.g a u e) h)]
    exact s.g a u e
  · rw [upd_ne (ne_of_none (s.r a u e) h)]
    exact s.r a u e
  · rw [upd_ne (ne_of_none (s.f a u e) h)]
    exact s.f a u e
end
theorem DkAt.ab {a b c : Addr} {m n : Nat} {R : Hp} {L0 L1 : List Int} (d : DkAt a m R b c L0 L1 n) : a ≠ b := fun e => by
  have h1 := d.top
  rw [e, d.big] at h1
  cases L0 with
  | nil => cases h1
  | cons x l => cases h1
theorem DkAt.ac {a b c : Addr} {m n : Nat} {R : Hp} {L0 L1 : List Int} (d : DkAt a m R b c L0 L1 n) : a ≠ c := fun e => by
  have h1 := d.top
  rw [e, d.all] at h1
  cases L1 with
  | nil => cases h1
  | cons x l => cases h1
def nextS : Spec := fun ds c p => ∃ (a : Addr) (k : Int), ds = [.ptr a, .int k] ∧ 1 ≤ k ∧ k ≤ 10000000000000 ∧ c = 1 ∧ ∀ i : Int, 0 ≤ i → i < k → p (.int i)
def deckI : List Dt → Res → Prop := fun ds I => ∃ a r, ds = .ptr a :: r ∧ I = DkI a
theorem dp_ints {K : PySem.W.Frag} {H : Hp} {b : Addr} {L : List Int} (h : H b = some (.lst (L.map V.int))) : Dp K H (.ref b) (.list (L.map PyData.int)) := by
  refine .lst (.inl (.inl h)) ?_
  induction L with
  | nil => exact .nil
  | cons x l ih =>
    refine .cons (.int x) ?_
    have key : ∀ l : List Int, DpAll K H (l.map V.int) (l.map PyData.int) := fun l => by
      induction l with
      | nil => exact .nil
      | cons y l ih => exact .cons (.int y) ih
    exact key l
theorem shapedL (ns : List Int) : SeqAt.shaped (.list (ns.map PyData.int)) = true := by
  have h := shaped_lst ns
  rw [show toP (.lst (iL ns)) = .list (toPs (iL ns)) from rfl, toPs_ints] at h
  exact h
theorem ixN_0 (x : V) (l : List V) : ixN (x :: l).length 0 = some 0 := by
  unfold ixN
  rw [if_pos (by decide), if_pos (by rw [List.length_cons]; omega)]
  rfl
theorem seqIx_0 (x : V) (l : List V) : seqIndex? 0 (x :: l).length = some 0 := by
  unfold seqIndex?
  simp
theorem cdiv_big {i k : Int} (h1 : 1 ≤ k) (h2 : k ≤ 10000000000000) : CDivW i k := wide_div (b := 64) (by omega) (by
  have : k.natAbs ≤ 10000000000000 := by omega
  exact Nat.lt_of_le_of_lt this (by decide)) (by decide) (by decide)
end Fw
set_option Elab.async false
set_option linter.all false
set_option maxRecDepth 100000
set_option maxHeartbeats 4000000
namespace Fw
open PySem PySem.Spec PyProof.Rows L2
open Evl (Ex)
section
variable {K : PySem.W.Frag} {I : Res} {Δ : Sl} {ta te : TE} {P P' Pe : Dt → Prop} {c1 c2 : Nat} {tr : TA} {n : Nat} {xs : List Dt}
theorem OpD.imp {r : R2} {x y : Dt} (h : OpD K r x y P) (hp : ∀ d, P d → P' d) : OpD K r x y P' := fun v w G F R H s h1 h2 Q q => h v w G F R H s h1 h2 Q fun z d G' H' a b c p => q z d G' H' a b c (hp d p)
theorem CallD.imp {r : List V → Hp → VK → Prop} {ds : List Dt} (h : CallD K r ds P) (hp : ∀ d, P d → P' d) : CallD K r ds P' := fun vs G F R H s h1 Q q => h vs G F R H s h1 Q fun z d G' H' a b c p => q z d G' H' a b c (hp d p)
theorem p_nil : EvA K I 0 tNil Δ (fun ds => ds.length = 0 ∧ ∀ d ∈ ds, Pe d) := fun m σ G F R H mb e i s Q q => q _ _ G R H (Evl.Ex.refl _) i s .nil ⟨rfl, fun d h => by cases h⟩
theorem p_cons (ha : Ev K I c1 ta Δ Pe) (hr : EvA K I c2 tr Δ (fun ds => ds.length = n ∧ ∀ d ∈ ds, Pe d)) : EvA K I (c1 + c2) (tCons ta tr) Δ (fun ds => ds.length = n + 1 ∧ ∀ d ∈ ds, Pe d) := fun m σ G F R H mb e i s Q q =>
  ea_cons ha hr m σ G F R H mb e i s Q fun vs ds G' R' H' e' i' s' d' p' => by
    obtain ⟨x, ys, rfl, px, pl, pa⟩ := p'
    refine q _ _ G' R' H' e' i' s' d' ⟨by rw [List.length_cons, pl], fun d hd => ?_⟩
    rcases List.mem_cons.mp hd with z | z
    · subst z
      exact px
    · exact pa d z
/-- an item of a list by a drawn place -/
theorem opd_pick {i : Int} (h0 : 0 ≤ i) (h1 : i < xs.length) (hp : ∀ d ∈ xs, P d) : OpD K (rIx K) (.lst xs) (.int i) P := by
  have hl : i.toNat < xs.length := by omega
  have e : atI xs i = some xs[i.toNat] := by
    have z : ((i.toNat : Nat) : Int) = i := Int.toNat_of_nonneg h0
    have y : atI xs ((i.toNat : Nat) : Int) = some xs[i.toNat] := atI_nat (List.getElem?_eq_getElem hl)
    rw [z] at y
    exact y
  exact (opd_ix rfl e).imp fun d hd => by
    rw [hd]
    exact hp _ (List.getElem_mem hl)
theorem opd_pickT {i : Int} (h0 : 0 ≤ i) (h1 : i < xs.length) (hp : ∀ d ∈ xs, P d) : OpD K (rIx K) (.tup xs) (.int i) P := by
  have hl : i.toNat < xs.length := by omega
  have e : atI xs i = some xs[i.toNat] := by
    have z : ((i.toNat : Nat) : Int) = i := Int.toNat_of_nonneg h0
    have y : atI xs ((i.toNat : Nat) : Int) = some xs[i.toNat] := atI_nat (List.getElem?_eq_getElem hl)
    rw [z] at y
    exact y
  exact (opd_ix rfl e).imp fun d hd => by
    rw [hd]
    exact hp _ (List.getElem_mem hl)
theorem itd_scr {G : Hp} {a : Addr} {ns : List Int} (h : SqL K G a (ns.map V.int)) : ItD K (Itl K a) (iL ns) G := by
  refine ⟨fun i G1 R F H e s hi => ?_, fun i G1 R F H d e s hi x H' y => ?_, fun i G1 R F H e s hi => ?_⟩
  · rw [List.length_map] at hi
    exact ⟨_, .int ns[i], Evl.ex_l s.g (Evl.ex_l e h), by rw [List.getElem?_map, List.getElem?_eq_getElem hi]; rfl⟩
  · obtain ⟨rfl, hy⟩ := y
    have e2 := hy _ (Evl.ex_l s.g (Evl.ex_l e h))
    rw [List.getElem?_map] at hi e2
    cases q : ns[i]? with
    | none => rw [q] at hi; cases hi
    | some z =>
      rw [q] at hi e2
      cases hi
      cases e2
      exact ⟨G1, Evl.Ex.refl _, s, .int z⟩
  · rw [List.length_map] at hi
    exact ⟨_, Evl.ex_l s.g (Evl.ex_l e h), by rw [List.length_map]; omega⟩
theorem i_scr {ns : List Int} (h : Ev K I c1 te Δ (· = .scr ns)) : EvI K I c1 (iList K te) Δ (· = iL ns) := fun m σ G F R H mb e i s Q q =>
  h m σ G F R H mb e i s _ fun v d G1 R1 H1 e1 i1 s1 d1 p1 => by
    subst p1
    cases d1 with
    | scr hs => exact ⟨_, rfl, ⟨_, Evl.ex_l s1.g hs⟩, q _ _ G1 R1 H1 e1 i1 s1 (itd_scr hs) rfl⟩
end
def absL (ns : List Int) : List Int := ns.map fun x => (x.natAbs : Int)
def bigL (ns : List Int) : List Int := (absL ns).filter fun x => decide (1000000000000000000 ≤ x)
def deckD (ns : List Int) : Dt := .lst [.lst (iL (bigL ns)), .lst (iL (absL ns ++ [(ns.length : Int) + 3])), .int 0]
end Fw
set_option Elab.async false
set_option linter.all false
set_option maxRecDepth 100000
set_option maxHeartbeats 4000000
namespace Fw
open PySem PySem.Spec PyProof.Rows L2
open Evl (Ex)
section
variable {K : PySem.W.Frag} {I : Res} {Δ : Sl} {ta te : TE} {P P' : Dt → Prop} {c1 c2 : Nat} {tr : TA} {n : Nat} {xs : List Dt} {N : Sl → Prop} {Rt : Dt → Prop}
/-- drawn elements, by their items -/
theorem e_drawR {c0 ce n : Nat} {wi : TI} {g : TG} {vs js : List Nat} {its : List Dt} (f : Dt → Sl → Sl) (Pe : Dt → Dt → Prop) (hi : EvI K I c0 wi Δ (· = its)) (hl : its.length ≤ n) (hn : n ≤ sizeLine) (hj : ∀ j ∈ js, j ∈ vs)
    (hs : ∀ d ∈ its, GD K g js d (f d) ∧ Ev K I ce te (f d (wipeD Δ vs)) (Pe d)) : Ev K I (c0 + n * (0 + ce)) (tLc wi g tYes te vs) Δ (fun r => ∃ xs : List Dt, r = .lst xs ∧ All2 Pe its xs) :=
  ev_lc (St := fun d o => ∃ x, o = some x ∧ Pe d x) hi (fun _ e => by subst e; exact hl) hn hj f (fun its' d e hd => by
    subst e
    exact ⟨(hs d hd).1, _, et_yes, fun e => (by cases e), fun _ => (hs d hd).2.imp fun x p => ⟨x, rfl, p⟩⟩) fun its' os e h => by
    subst e
    refine ⟨_, rfl, ?_⟩
    have key : ∀ {as : List Dt} {os : List (Option Dt)}, All2 (fun d o => ∃ x, o = some x ∧ Pe d x) as os → All2 Pe as (os.filterMap id) := fun h => by
      induction h with
      | nil => exact .nil
      | cons p _ ih =>
        obtain ⟨x, rfl, px⟩ := p
        simp only [List.filterMap_cons, id]
        exact .cons px ih
    exact key h
theorem gd_three {j k l : Nat} {x y z : Dt} : GD K (gTup K 3 (gCons (gName j) (gCons (gName k) (gCons (gName l) gNil)))) [j, k, l] (.tup [x, y, z]) (fun Δ => ((Δ.set j (some x)).set k (some y)).set l (some z)) := fun σ Δ G R F H v e s hd Q q => by
  cases hd with
  | tup ha hs =>
    cases hs with
    | cons hx hs =>
      cases hs with
      | cons hy hs =>
        cases hs with
        | cons hz hn =>
          cases hn
          refine ⟨_, _, rfl, s.tupH ha, rfl, _, _, rfl, _, _, rfl, _, _, rfl, rfl, q _ (((e.set hx).set hy).set hz) fun vs hv => ?_⟩
          rw [wipe_set_mem (hv l (by simp)), wipe_set_mem (hv k (by simp)), wipe_set_mem (hv j (by simp))]
theorem sv_asg3 {j k l : Nat} (h : Ev K I c1 te Δ P) (h2 : ∀ d, P d → ∃ x y z, d = .tup [x, y, z] ∧ N (((Δ.set j (some x)).set k (some y)).set l (some z))) : Sv K I c1 (tAsg te (gTup K 3 (gCons (gName j) (gCons (gName k) (gCons (gName l) gNil))))) Δ N Rt := fun m σ G F R H mb e i s D q r =>
  h m σ G F R H mb e i s _ fun v d G' R' H' e' ii ss dd p => by
    obtain ⟨x, y, z, rfl, hN⟩ := h2 d p
    exact gd_three σ Δ G' R' F H' v (e.mono e') ss dd _ fun σ' e2 _ => q _ _ G' R' H' hN e' e2 ii ss
end
/-! ### the law's own beginning -/
def noI : Res where
  p := fun _ R => R = fun _ => none
  mono := fun _ h => h
def deckSp (K : PySem.W.Frag) : Sp := mk K anyI fun ds _ p => ∃ ns, ds = [.scr ns] ∧ ns.length ≤ 63 ∧ p (deckD ns)
def lawSp (K : PySem.W.Frag) : Sp := fun vs H Q _ => ∃ (a : Addr) (ns : List Int), vs = [.ref a] ∧ SqL K H a (ns.map V.int) ∧ ns.length ≤ 63 ∧ Only H ∧ ∀ H', Q (.bl true) H'
theorem abs_pos {ns : List Int} : ∀ x ∈ absL ns ++ [(ns.length : Int) + 3], 0 ≤ x := fun x hx => by
  rcases List.mem_append.mp hx with h | h
  · obtain ⟨i, _, rfl⟩ := List.mem_map.mp h
    omega
  · rcases List.mem_cons.mp h with e | e
    · subst e
      omega
    · cases e
theorem law_run {K : PySem.W.Frag} {N : List Str} {c : Nat} {t2 : TS} {s0 : Addr} {ns : List Int} {H : Hp} {Q : VK} {nx : L2.St → Hp → Prop} (hS : SqL K H s0 (ns.map V.int)) (hn : ns.length ≤ 63) (hO : Only H) (hq : ∀ H', Q (.bl true) H') (hc : c ≤ BIG) (hN : 2 ≤ N.length)
    (h2 : ∀ (a : Addr), Sv K (DkI a) c t2 (([Dt.scr ns].map some ++ List.replicate (N.length - 1) none).set 1 (some (.ptr a))) (fun _ => False) (· = .bl true)) :
    tSeq (tAsg (tCall (deckSp K) [] E0 (tCons (tVar 0) tNil)) (gName 1)) t2 { nx := nx, rt := Q } (start N [.ref s0]) H := by
  refine ⟨.ref s0, rfl, ?_⟩
  show deckSp K [.ref s0] H _ E0
  have sp0 : Sp3 H (fun _ => none) (fun _ => none) H := ⟨Evl.Ex.refl _, fun _ _ e => (by cases e), fun _ _ e => (by cases e), fun _ => .inr rfl, fun _ => .inr rfl, fun _ => .inr rfl⟩
  refine ⟨[.scr ns], noI, 0, 0, H, fun _ => none, fun _ => none, (· = deckD ns), .cons (.scr hS) .nil, trivial, Nat.zero_le _, rfl, sp0, ⟨ns, rfl, hn, rfl⟩, fun v d G' R' H' e _ s dd p => ?_⟩
  subst p
  cases dd with
  | @lst pa us _ hp hs =>
  cases hs with
  | cons d0 hs =>
  cases hs with
  | cons d1 hs =>
  cases hs with
  | cons d2 hs =>
  cases hs
  cases d2
  cases d0 with
  | @lst b bs _ hb db =>
  cases d1 with
  | @lst cc cs _ hcc dc =>
  have eb := db.ints
  have ec := dc.ints
  subst eb ec
  have hlen : (bigL ns).length ≤ ns.length := Nat.le_trans (List.length_filter_le _ _) (by unfold absL; rw [List.length_map]; exact Nat.le_refl _)
  have hne : b ≠ cc := fun z => by
    rw [z, hcc] at hb
    have y := congrArg (fun o => match o with | some (HO.lst l) => l.length | _ => 0) hb
    simp only [List.length_map, List.length_append, absL, List.length_cons, List.length_nil] at y
    omega
  have old : ∀ x o, H x = some o → x ≠ pa ∧ x ≠ b ∧ x ≠ cc := fun x o hx => by
    have g' := e x o hx
    rcases hO x with z | ⟨ob, xs, z⟩
    · rw [hx] at z
      cases z
    · rw [hx] at z
      cases z
      refine ⟨fun z => ?_, fun z => ?_, fun z => ?_⟩
      · rw [z, hp] at g'
        cases g'
      · rw [z, hb] at g'
        cases g'
      · rw [z, hcc] at g'
        cases g'
  have sp1 : Sp3 H (fun x => if x = pa ∨ x = b ∨ x = cc then G' x else none) (fun _ => none) H' := by
    refine ⟨fun x o hx => s.g x o (e x o hx), fun x o hx => ?_, fun _ _ z => (by cases z), fun x => ?_, fun _ => .inr rfl, fun _ => .inr rfl⟩
    · by_cases hi : x = pa ∨ x = b ∨ x = cc
      · simp only [if_pos hi] at hx
        exact s.g x o hx
      · simp only [if_neg hi] at hx
        cases hx
    · cases hx : H x with
      | none => exact .inl rfl
      | some o =>
        obtain ⟨n1, n2, n3⟩ := old x o hx
        right
        show (if x = pa ∨ x = b ∨ x = cc then G' x else none) = none
        rw [if_neg]
        rintro (z | z | z)
        · exact n1 z
        · exact n2 z
        · exact n3 z
  have dk : (DkI pa).p 0 (fun x => if x = pa ∨ x = b ∨ x = cc then G' x else none) := by
    refine ⟨b, cc, bigL ns, absL ns ++ [(ns.length : Int) + 3], 0, ?_, ?_, ?_, hne, by simp, by omega, ?_, abs_pos, Nat.le_refl _⟩
    · show (if pa = pa ∨ pa = b ∨ pa = cc then G' pa else none) = _
      rw [if_pos (.inl rfl)]
      exact hp
    · show (if b = pa ∨ b = b ∨ b = cc then G' b else none) = _
      rw [if_pos (.inr (.inl rfl))]
      exact hb
    · show (if cc = pa ∨ cc = b ∨ cc = cc then G' cc else none) = _
      rw [if_pos (.inr (.inr rfl))]
      exact hcc
    · rw [List.length_append]
      show (absL ns).length + 1 ≤ 1000
      unfold absL
      rw [List.length_map]
      omega
  have env : EnvD K H ((start N [.ref s0]).set 1 (some (.ref pa))) (([Dt.scr ns].map some ++ List.replicate (N.length - 1) none).set 1 (some (.ptr pa))) :=
    (EnvD.start (N := N) (.cons (.scr hS) .nil)).set (.ptr pa)
  exact h2 pa 0 _ H _ _ H' (by omega) env dk sp1 _ (fun _ _ _ _ _ z => z.elim) (fun v d G2 R2 H2 _ _ _ dd z => by
    subst z
    cases dd
    exact hq H2)
end Fw
set_option Elab.async false
set_option linter.all false
set_option maxRecDepth 100000
set_option maxHeartbeats 4000000
namespace Fw
open PySem PySem.Spec PyProof.Rows L2
open Evl (Ex)
theorem notInK (K : PySem.W.Frag) {X : Cx} (h : X.K = K := by rfl) : OpR X (compareOp .NotIn) (rIn K true) := h ▸ op_notIn_seq
theorem appK (K : PySem.W.Frag) {X : Cx} : MtR X "list.append" rAppend := mt_append
def isNI : Dt → Bool
  | .non => true
  | .int _ => true
  | _ => false
def memI (i : Int) (xs : List Dt) : Bool := xs.any fun d => match d with
  | .int k => decide (k = i)
  | _ => false
section
variable {K : PySem.W.Frag} {I : Res} {Δ : Sl} {te : TE} {P : Dt → Prop} {c1 c2 : Nat} {xs : List Dt} {i : Int} {N : Sl → Prop} {Rt : Dt → Prop}
theorem ni_flat {G : Hp} : ∀ {vs : List V} {ds : List Dt}, Dens K G vs ds → (∀ d ∈ ds, isNI d = true) → vs.all flatV = true ∧ inV (.int i) vs = memI i ds
  | _, _, .nil, _ => ⟨rfl, rfl⟩
  | _, _, .cons h hs, hn => by
    obtain ⟨h1, h2⟩ := ni_flat hs fun d hd => hn d (List.mem_cons_of_mem _ hd)
    have h3 := hn _ List.mem_cons_self
    unfold inV memI at h2 ⊢
    cases h with
    | non => exact ⟨by rw [List.all_cons, h1]; rfl, by rw [List.any_cons, List.any_cons, h2]; rfl⟩
    | int k =>
      refine ⟨by rw [List.all_cons, h1]; rfl, ?_⟩
      rw [List.any_cons, List.any_cons, h2]
      rfl
    | _ => cases h3
theorem opd_notIn (h : ∀ d ∈ xs, isNI d = true) : OpD K (rIn K true) (.int i) (.tup xs) (· = .bl (!memI i xs)) := fun v w G F R H s hv hw Q q => by
  cases hv
  cases hw with
  | tup ha hd =>
    obtain ⟨h1, h2⟩ := ni_flat (i := i) hd h
    refine ⟨_, _, rfl, .inr (s.tupH ha), rfl, h1, q _ _ G H (Evl.Ex.refl _) s ?_ rfl⟩
    rw [if_pos rfl, h2]
    exact .bl _
theorem EnvD.re {G : Hp} {σ : L2.St} {j : Nat} {v : V} {d : Dt} (h : EnvD K G σ Δ) (hv : σ[j]? = some (some v)) (hd : Den K G v d) : EnvD K G σ (Δ.set j (some d)) := ⟨by rw [List.length_set]; exact h.len, fun i d' hi => by
  by_cases e : j = i
  · subst e
    by_cases hj : j < Δ.length
    · rw [List.getElem?_set_self hj] at hi
      cases hi
      exact ⟨v, hv, hd⟩
    · rw [List.getElem?_eq_none (by simpa using hj)] at hi
      cases hi
  · rw [List.getElem?_set_ne e] at hi
    exact h.at' i d' hi⟩
/-- x = []; for ..: x.append(e) -/
theorem sv_acc {c0 ce n j : Nat} {wi : TI} {g : TG} {js : List Nat} {its : List Dt} {w : TS} {c3 : Nat} (f : Dt → Sl → Sl) (Pe : Dt → Dt → Prop) (J : Addr → Nat → Sl → Prop) (hjl : j < Δ.length)
    (hi : ∀ D, EvI K I c0 wi (Δ.set j (some (.ptr D))) (· = its)) (hl : its.length ≤ n) (hn : n ≤ sizeLine) (h0 : ∀ D, J D 0 (Δ.set j (some (.ptr D))))
    (hs : ∀ D k d Δ', its[k]? = some d → J D k Δ' → GD K g js d (f d) ∧ (f d Δ')[j]? = some (some (.ptr D)) ∧ Ev K I ce te (f d Δ') (Pe d) ∧ J D (k + 1) (f d Δ')) (hJ : ∀ D k Δ', J D k Δ' → Δ'[j]? = some (some (.ptr D)))
    (hN : ∀ D Δ' xs, J D its.length Δ' → All2 Pe its xs → Sv K I c3 w (Δ'.set j (some (.lst xs))) N Rt) :
    Sv K I (c0 + n * ce + c3) (tSeq (tAsg (tLst tNil) (gName j)) (tSeq (tFor wi g (tDrop (tBM K "list" rAppend (tVar j) (tCons te tNil)))) w)) Δ N Rt := fun m σ G F R H mb e i s D q r => by
  refine ⟨Nat.zero_le _, fun L hL => ?_⟩
  have hFL : F L = none := Ex.no s.f hL
  have env1 : EnvD K G (σ.set j (some (.ref L))) (Δ.set j (some (.ptr L))) := e.set (.ptr L)
  have s1 : Sp3 G R (upd F L (.lst [])) (upd H L (.lst [])) := s.newF hL
  refine hi L m _ G _ R _ (by omega) env1 i s1 _ fun Jt its' G1 R1 H1 e1 i1 s2 it pi => ?_
  subst pi
  have hmul : ∀ k, k ≤ its'.length → k * ce ≤ n * ce := fun k hk => Nat.mul_le_mul_right _ (Nat.le_trans hk hl)
  refine ⟨fun k x σ2 H2 => x = its'.length - k ∧ k ≤ its'.length ∧ ∃ Δ2 G2 R2 xs acc, Ex G1 G2 ∧ EnvD K G2 σ2 Δ2 ∧ I.p (m + c0 + k * ce) R2 ∧ Sp3 G2 R2 (upd F L (.lst acc)) H2 ∧ J L k Δ2 ∧ All2 Pe (its'.take k) xs ∧ Dens K G2 acc xs,
    ⟨its'.length, rfl, Nat.zero_le _, _, G1, R1, [], [], Evl.Ex.refl _, env1.mono e1, by rw [Nat.zero_mul]; exact i1, s2, h0 L, .nil, .nil⟩, ?_⟩
  rintro k x σ2 H2 ⟨rfl, hk, Δ2, G2, R2, xs, acc, e2, en2, i2, s3, j2, ao, da⟩
  by_cases hlt : k < its'.length
  · refine .inr ⟨it.go k G2 R2 _ H2 e2 s3 hlt, fun σ3 H3 => ∃ Δ3 G3 R3 xs acc, Ex G1 G3 ∧ EnvD K G3 σ3 Δ3 ∧ I.p (m + c0 + (k + 1) * ce) R3 ∧ Sp3 G3 R3 (upd F L (.lst acc)) H3 ∧ J L (k + 1) Δ3 ∧ All2 Pe (its'.take (k + 1)) xs ∧ Dens K G3 acc xs, fun σ3 H3 h3 => ?_, fun x H3 y => ?_⟩
    · exact ⟨its'.length - (k + 1), by omega, rfl, hlt, h3⟩
    · have hd : its'[k]? = some its'[k] := List.getElem?_eq_getElem hlt
      have hk1 := hmul (k + 1) hlt
      rw [Nat.succ_mul] at hk1
      have tk : its'.take (k + 1) = its'.take k ++ [its'[k]] := by rw [List.take_add_one, hd]; rfl
      obtain ⟨G3, e3, s4, dx⟩ := it.yld k G2 R2 _ H2 _ e2 s3 hd x H3 y
      obtain ⟨gd, hj, hev, j3⟩ := hs L k _ Δ2 hd j2
      refine gd σ2 Δ2 G3 R2 _ H3 x (en2.mono e3) s4 dx _ fun σ' env' _ => ?_
      obtain ⟨v, hv, dv⟩ := env'.at' _ _ hj
      cases dv
      have hLs : H3 L = some (.lst acc) := s4.f L _ upd_same
      refine ⟨.ref L, hv, .inl ⟨rfl, acc, .inl (.inl hLs)⟩, ?_⟩
      refine hev _ σ' G3 _ R2 H3 (by omega) env' i2 s4 _ fun y dy G5 R5 H5 e5 i5 s5 d5 p5 => ?_
      have hacc : acc.length < sizeLine := by
        have h1 := da.len
        have h3 := ao.len
        rw [List.length_take] at h3
        omega
      refine ⟨L, acc, y, rfl, rfl, s5.f L _ upd_same, hacc, f its'[k] Δ2, G5, R5, xs ++ [dy], acc ++ [y], ((e2.trans e3).trans e5), env'.mono e5, I.mono (by rw [Nat.succ_mul]; omega) i5, s5.setF, j3, ?_, ?_⟩
      · rw [tk]
        exact ao.snoc p5
      · exact ((da.mono e3).mono e5).app (.cons d5 .nil)
  · have ek : k = its'.length := by omega
    subst ek
    have hk1 := hmul its'.length (Nat.le_refl _)
    refine .inl ⟨it.stop _ G2 R2 _ H2 e2 s3 rfl, ?_⟩
    rw [List.take_length] at ao
    obtain ⟨v, hv, dv⟩ := en2.at' _ _ (hJ L _ Δ2 j2)
    cases dv
    have dl : Den K (upd G2 L (.lst acc)) (.ref L) (.lst xs) := .lst upd_same (da.mono s3.giveEx)
    exact hN L Δ2 xs j2 ao _ σ2 _ F R2 H2 (by omega) ((en2.mono s3.giveEx).re hv dl) i2 (s3.give hFL) D (fun Δ'' σ'' G'' R'' H'' n' e'' en' ii' ss' => q Δ'' σ'' G'' R'' H'' n' ((((e1.trans e2).trans s3.giveEx)).trans e'') en' (I.mono (by omega) ii') ss')
      (fun v d G'' R'' H'' e'' ii' ss' dd p => r v d G'' R'' H'' (((e1.trans e2).trans s3.giveEx).trans e'') (I.mono (by omega) ii') ss' dd p)
end
end Fw
set_option Elab.async false
set_option linter.all false
set_option maxRecDepth 100000
set_option maxHeartbeats 4000000
namespace KK
open PySem PySem.Spec PyProof.Rows L2 Fw
open Evl (Ex)
def topS (i : Nat) : Stmt := PySem.Challenge.pw_widthmix_k11_whole_never_both.main.body.getD i (.Pass ⟨0, 0, 0, 0⟩)
abbrev s_is_integer : Stmt := topS 2
theorem sc_is_integer : FnScope ["value"] ["value"] (defScope s_is_integer) := ⟨rfl, rfl, rfl, by decide +kernel, rfl, by decide +kernel, by decide +kernel⟩
abbrev s_is_level : Stmt := topS 3
theorem sc_is_level : FnScope ["value"] ["value"] (defScope s_is_level) := ⟨rfl, rfl, rfl, by decide +kernel, rfl, by decide +kernel, by decide +kernel⟩
abbrev s_is_number_below : Stmt := topS 4
theorem sc_is_number_below : FnScope ["value", "many"] ["value", "many"] (defScope s_is_number_below) := ⟨rfl, rfl, rfl, by decide +kernel, rfl, by decide +kernel, by decide +kernel⟩
abbrev s_is_tuple_of : Stmt := topS 5
theorem sc_is_tuple_of : FnScope ["value", "many"] ["value", "many"] (defScope s_is_tuple_of) := ⟨rfl, rfl, rfl, by decide +kernel, rfl, by decide +kernel, by decide +kernel⟩
abbrev s_are_levels : Stmt := topS 6
theorem sc_are_levels : FnScope ["value", "many", "part"] ["value", "many"] (defScope s_are_levels) := ⟨rfl, rfl, rfl, by decide +kernel, rfl, by decide +kernel, by decide +kernel⟩
abbrev s_is_setting : Stmt := topS 12
theorem sc_is_setting : FnScope ["table", "value"] ["table", "value"] (defScope s_is_setting) := ⟨rfl, rfl, rfl, by decide +kernel, rfl, by decide +kernel, by decide +kernel⟩
abbrev s_are_wants : Stmt := topS 13
theorem sc_are_wants : FnScope ["table", "value"] ["table", "value"] (defScope s_are_wants) := ⟨rfl, rfl, rfl, by decide +kernel, rfl, by decide +kernel, by decide +kernel⟩
abbrev s_level_of : Stmt := topS 14
theorem sc_level_of : FnScope ["row", "setting", "width", "level"] ["row", "setting"] (defScope s_level_of) := ⟨rfl, rfl, rfl, by decide +kernel, rfl, by decide +kernel, by decide +kernel⟩
abbrev s_levels_of : Stmt := topS 15
theorem sc_levels_of : FnScope ["table", "setting", "row"] ["table", "setting"] (defScope s_levels_of) := ⟨rfl, rfl, rfl, by decide +kernel, rfl, by decide +kernel, by decide +kernel⟩
abbrev s_upper_setting : Stmt := topS 17
theorem sc_upper_setting : FnScope ["table", "wants", "inlet"] ["table", "wants"] (defScope s_upper_setting) := ⟨rfl, rfl, rfl, by decide +kernel, rfl, by decide +kernel, by decide +kernel⟩
abbrev s_upper_level : Stmt := topS 18
theorem sc_upper_level : FnScope ["table", "wants", "inlet", "row", "want"] ["table", "wants", "inlet"] (defScope s_upper_level) := ⟨rfl, rfl, rfl, by decide +kernel, rfl, by decide +kernel, by decide +kernel⟩
abbrev s_is_solution : Stmt := topS 19
theorem sc_is_solution : FnScope ["table", "wants", "value"] ["table", "wants", "value"] (defScope s_is_solution) := ⟨rfl, rfl, rfl, by decide +kernel, rfl, by decide +kernel, by decide +kernel⟩
abbrev s_find_evidence : Stmt := topS 20
theorem sc_find_evidence : FnScope ["table", "wants", "levels", "outlet"] ["table", "wants"] (defScope s_find_evidence) := ⟨rfl, rfl, rfl, by decide +kernel, rfl, by decide +kernel, by decide +kernel⟩
abbrev s_reasons_of : Stmt := topS 21
theorem sc_reasons_of : FnScope ["table", "wants", "outlet", "inlet"] ["table", "wants", "outlet"] (defScope s_reasons_of) := ⟨rfl, rfl, rfl, by decide +kernel, rfl, by decide +kernel, by decide +kernel⟩
abbrev s_reason_of : Stmt := topS 22
theorem sc_reason_of : FnScope ["table", "wants", "outlet", "inlet", "number"] ["table", "wants", "outlet", "inlet"] (defScope s_reason_of) := ⟨rfl, rfl, rfl, by decide +kernel, rfl, by decide +kernel, by decide +kernel⟩
abbrev s_is_evidence : Stmt := topS 23
theorem sc_is_evidence : FnScope ["table", "wants", "value", "outlet", "reasons"] ["table", "wants", "value"] (defScope s_is_evidence) := ⟨rfl, rfl, rfl, by decide +kernel, rfl, by decide +kernel, by decide +kernel⟩
abbrev s_are_reasons : Stmt := topS 24
theorem sc_are_reasons : FnScope ["table", "wants", "outlet", "reasons", "inlet", "reason"] ["table", "wants", "outlet", "reasons"] (defScope s_are_reasons) := ⟨rfl, rfl, rfl, by decide +kernel, rfl, by decide +kernel, by decide +kernel⟩
abbrev s_is_reason : Stmt := topS 25
theorem sc_is_reason : FnScope ["table", "wants", "outlet", "inlet", "reason"] ["table", "wants", "outlet", "inlet", "reason"] (defScope s_is_reason) := ⟨rfl, rfl, rfl, by decide +kernel, rfl, by decide +kernel, by decide +kernel⟩
abbrev s_certificate : Stmt := topS 26
theorem sc_certificate : FnScope ["table", "wants", "evidence"] ["table", "wants"] (defScope s_certificate) := ⟨rfl, rfl, rfl, by decide +kernel, rfl, by decide +kernel, by decide +kernel⟩
abbrev s__law_deck : Stmt := topS 28
theorem sc__law_deck : FnScope ["_law_script", "_law_cells", "_law_cell"] ["_law_script"] (defScope s__law_deck) := ⟨rfl, rfl, rfl, by decide +kernel, rfl, by decide +kernel, by decide +kernel⟩
abbrev s__law_next : Stmt := topS 29
theorem sc__law_next : FnScope ["_law_deck_here", "_law_many", "_law_rest", "_law_cell", "_law_mixed"] ["_law_deck_here", "_law_many"] (defScope s__law_next) := ⟨rfl, rfl, rfl, by decide +kernel, rfl, by decide +kernel, by decide +kernel⟩
abbrev s__law_one : Stmt := topS 30
theorem sc__law_one : FnScope ["_law_deck_here", "_law_some"] ["_law_deck_here", "_law_some"] (defScope s__law_one) := ⟨rfl, rfl, rfl, by decide +kernel, rfl, by decide +kernel, by decide +kernel⟩
abbrev s__law_same : Stmt := topS 31
theorem sc__law_same : FnScope ["_law_found", "_law_due", "_law_k"] ["_law_found", "_law_due"] (defScope s__law_same) := ⟨rfl, rfl, rfl, by decide +kernel, rfl, by decide +kernel, by decide +kernel⟩
abbrev s__law_great : Stmt := topS 32
theorem sc__law_great : FnScope ["_law_deck_here"] ["_law_deck_here"] (defScope s__law_great) := ⟨rfl, rfl, rfl, by decide +kernel, rfl, by decide +kernel, by decide +kernel⟩
abbrev s__law_level : Stmt := topS 33
theorem sc__law_level : FnScope ["_law_deck_here", "_law_great_here"] ["_law_deck_here", "_law_great_here"] (defScope s__law_level) := ⟨rfl, rfl, rfl, by decide +kernel, rfl, by decide +kernel, by decide +kernel⟩
abbrev s__law_row : Stmt := topS 34
theorem sc__law_row : FnScope ["_law_deck_here", "_law_great_here", "_law_count", "_law_k"] ["_law_deck_here", "_law_great_here", "_law_count"] (defScope s__law_row) := ⟨rfl, rfl, rfl, by decide +kernel, rfl, by decide +kernel, by decide +kernel⟩
abbrev s__law_table : Stmt := topS 35
theorem sc__law_table : FnScope ["_law_deck_here", "_law_great_here", "_law_outlets", "_law_inlets", "_law_k"] ["_law_deck_here", "_law_great_here", "_law_outlets", "_law_inlets"] (defScope s__law_table) := ⟨rfl, rfl, rfl, by decide +kernel, rfl, by decide +kernel, by decide +kernel⟩
abbrev s__law_levels : Stmt := topS 36
theorem sc__law_levels : FnScope ["_law_table_here", "_law_setting", "_law_row_here", "_law_width", "_law_level_here"] ["_law_table_here", "_law_setting"] (defScope s__law_levels) := ⟨rfl, rfl, rfl, by decide +kernel, rfl, by decide +kernel, by decide +kernel⟩
abbrev s__law_wants : Stmt := topS 37
theorem sc__law_wants : FnScope ["_law_deck_here", "_law_table_here", "_law_great_here", "_law_wants_here", "_law_way", "_law_spot"] ["_law_deck_here", "_law_table_here", "_law_great_here"] (defScope s__law_wants) := ⟨rfl, rfl, rfl, by decide +kernel, rfl, by decide +kernel, by decide +kernel⟩
abbrev s__law_drawn : Stmt := topS 38
theorem sc__law_drawn : FnScope ["_law_deck_here", "_law_table_here", "_law_wants_here", "_law_some", "_law_width"] ["_law_deck_here", "_law_table_here", "_law_wants_here"] (defScope s__law_drawn) := ⟨rfl, rfl, rfl, by decide +kernel, rfl, by decide +kernel, by decide +kernel⟩
abbrev s__law_excluded : Stmt := topS 39
theorem sc__law_excluded : FnScope ["_law_deck_here", "_law_table_here", "_law_wants_here", "_law_told", "_law_outlet", "_law_reasons", "_law_time", "_law_setting", "_law_levels_here", "_law_beyond", "_law_other", "_law_want", "_law_k"] ["_law_deck_here", "_law_table_here", "_law_wants_here", "_law_told"] (defScope s__law_excluded) := ⟨rfl, rfl, rfl, by decide +kernel, rfl, by decide +kernel, by decide +kernel⟩
abbrev s__law_never_excluded : Stmt := topS 40
theorem sc__law_never_excluded : FnScope ["_law_deck_here", "_law_table_here", "_law_wants_here", "_law_time", "_law_reasons", "_law_width"] ["_law_deck_here", "_law_table_here", "_law_wants_here"] (defScope s__law_never_excluded) := ⟨rfl, rfl, rfl, by decide +kernel, rfl, by decide +kernel, by decide +kernel⟩
abbrev s_law : Stmt := topS 41
theorem sc_law : FnScope ["_law_script", "_law_deck_here", "_law_turn", "_law_great_here", "_law_table_here", "_law_wants_here", "_law_word", "_law_told"] ["_law_script"] (defScope s_law) := ⟨rfl, rfl, rfl, by decide +kernel, rfl, by decide +kernel, by decide +kernel⟩
theorem fm_congr {α β : Type} {f g : α → Option β} : ∀ l : List α, (∀ x, f x = g x) → l.filterMap f = l.filterMap g
  | [], _ => rfl
  | x :: l, h => by
    rw [List.filterMap_cons, List.filterMap_cons, h x, fm_congr l h]
def holds (t : List (List Int)) (w : List Int) (j : Nat) : List Int := (List.zip t w).filterMap fun p => if p.2 < p.1.getD j 0 then some p.2 else none
def upLev (t : List (List Int)) (w : List Int) (j : Nat) : Int := mnD (holds t w j) TOPI
def upper (t : List (List Int)) (w : List Int) (n : Nat) : List Int := (List.range n).map fun j => upLev t w j
theorem holds_mem {t : List (List Int)} {w : List Int} {j : Nat} {y : Int} (h : y ∈ holds t w j) : y ∈ w := by
  unfold holds at h
  obtain ⟨p, hp, e⟩ := List.mem_filterMap.mp h
  split at e
  · cases e
    exact (List.of_mem_zip hp).2
  · cases e
theorem upLev_lev {n : Nat} {t : List (List Int)} {w : List Int} (ht : isT n t) (hw : isV t.length w) (j : Nat) : 0 ≤ upLev t w j ∧ upLev t w j ≤ TOPI := by
  unfold upLev
  by_cases h : holds t w j = []
  · rw [h]
    decide
  · exact hw.lev _ (holds_mem (mnD_mem h))
theorem upper_isV {n : Nat} {t : List (List Int)} {w : List Int} (ht : isT n t) (hw : isV t.length w) : isV n (upper t w n) := by
  refine ⟨by unfold upper; rw [List.length_map, List.length_range], fun x hx => ?_⟩
  obtain ⟨j, _, rfl⟩ := List.mem_map.mp hx
  exact upLev_lev ht hw j
theorem zipD_rows : ∀ (t : List (List Int)) (w : List Int), zipD (t.map fun r => vec r) (iL w) = (List.zip t w).map fun p => Dt.tup [vec p.1, .int p.2]
  | [], w => by cases w <;> rfl
  | _ :: _, [] => rfl
  | x :: t, y :: w => by
    show Dt.tup [vec x, .int y] :: zipD (t.map fun r => vec r) (iL w) = Dt.tup [vec x, .int y] :: (List.zip t w).map _
    rw [zipD_rows t w]
theorem zipD_ints : ∀ r v : List Int, zipD (iL r) (iL v) = (List.zip r v).map fun p => Dt.tup [.int p.1, .int p.2]
  | [], v => by cases v <;> rfl
  | _ :: _, [] => rfl
  | x :: r, y :: v => by
    show Dt.tup [.int x, .int y] :: zipD (iL r) (iL v) = Dt.tup [.int x, .int y] :: (List.zip r v).map _
    rw [zipD_ints r v]
def unI : Dt → List Int
  | .tup xs => xs.filterMap fun d => match d with
    | .int i => some i
    | _ => none
  | _ => []
theorem unI_vec (r : List Int) : unI (vec r) = r := by
  show (iL r).filterMap _ = r
  rw [List.filterMap_map]
  show r.filterMap (fun i => some i) = r
  exact List.filterMap_some
def solD (n : Nat) (t : List (List Int)) (w : List Int) (d : Dt) : Bool := areLevD d n && decide (levs t (unI d) = w)
theorem areLev_inv {d : Dt} {n : Nat} (h : areLevD d n = true) : ∃ v, d = vec v ∧ isV n v := by
  cases d with
  | tup xs =>
    have h2 : (decide ((xs.length : Int) = n) && xs.all isLevD) = true := h
    rw [Bool.and_eq_true, List.all_eq_true] at h2
    have e : xs = iL (unI (.tup xs)) := by
      have key : ∀ ys : List Dt, (∀ y ∈ ys, isLevD y = true) → ys = iL (unI (.tup ys)) := fun ys => by
        induction ys with
        | nil => exact fun _ => rfl
        | cons y ys ih =>
          intro hy
          have h3 := hy y List.mem_cons_self
          cases y with
          | int i =>
            show Dt.int i :: ys = Dt.int i :: iL (unI (.tup ys))
            rw [← ih fun z hz => hy z (List.mem_cons_of_mem _ hz)]
          | _ => cases h3
      exact key xs h2.2
    refine ⟨unI (.tup xs), by rw [show vec (unI (.tup xs)) = Dt.tup (iL (unI (.tup xs))) from rfl, ← e], ?_⟩
    rw [e] at h
    exact areLev_vec.mp h
  | _ => cases h
/-! ### levels and solutions -/
theorem getD_at {l : List Int} {j : Nat} {d : Int} (h : j < l.length) : l.getD j d = l[j] := by
  rw [List.getD_eq_getElem?_getD, List.getElem?_eq_getElem h]
  rfl
theorem zw_mem {r v : List Int} {y : Int} (h : y ∈ List.zipWith min r v) : ∃ j, j < r.length ∧ j < v.length ∧ y = min (r.getD j 0) (v.getD j 0) := by
  obtain ⟨j, hj, e⟩ := List.getElem_of_mem h
  rw [List.length_zipWith] at hj
  refine ⟨j, by omega, by omega, ?_⟩
  rw [← e, List.getElem_zipWith, getD_at (by omega), getD_at (by omega)]
theorem zw_get {r v : List Int} {j : Nat} (h1 : j < r.length) (h2 : j < v.length) : min (r.getD j 0) (v.getD j 0) ∈ List.zipWith min r v := by
  rw [getD_at h1, getD_at h2]
  have h : j < (List.zipWith min r v).length := by
    rw [List.length_zipWith]
    omega
  have e : (List.zipWith min r v)[j] = min r[j] v[j] := List.getElem_zipWith
  rw [← e]
  exact List.getElem_mem h
theorem rowLev_le {r v : List Int} {c : Int} (h0 : 0 ≤ c) (h : ∀ j, j < r.length → j < v.length → min (r.getD j 0) (v.getD j 0) ≤ c) : rowLev r v ≤ c :=
  mx_le h0 fun y hy => by
    obtain ⟨j, h1, h2, rfl⟩ := zw_mem hy
    exact h j h1 h2
theorem rowLev_ge {r v : List Int} {j : Nat} (h1 : j < r.length) (h2 : j < v.length) : min (r.getD j 0) (v.getD j 0) ≤ rowLev r v := mx_ge _ (zw_get h1 h2)
def leV (n : Nat) (a b : List Int) : Prop := ∀ j, j < n → a.getD j 0 ≤ b.getD j 0
theorem leV.refl {n : Nat} {a : List Int} : leV n a a := fun _ _ => Int.le_refl _
theorem leV.trans {n : Nat} {a b c : List Int} (h1 : leV n a b) (h2 : leV n b c) : leV n a c := fun j hj => Int.le_trans (h1 j hj) (h2 j hj)
theorem getD_lev {n : Nat} {v : List Int} (h : isV n v) {j : Nat} (hj : j < n) : 0 ≤ v.getD j 0 ∧ v.getD j 0 ≤ TOPI := by
  rw [getD_at (by rw [h.len]; exact hj)]
  exact h.lev _ (List.getElem_mem _)
theorem rowLev_nn {n : Nat} {r v : List Int} (hr : isV n r) (hv : isV n v) (n1 : 1 ≤ n) : 0 ≤ rowLev r v := by
  have h := rowLev_ge (r := r) (v := v) (j := 0) (by rw [hr.len]; omega) (by rw [hv.len]; omega)
  have h1 := (getD_lev hr (j := 0) (by omega)).1
  have h2 := (getD_lev hv (j := 0) (by omega)).1
  omega
theorem rowLev_top {n : Nat} {r v : List Int} (hr : isV n r) (hv : isV n v) : rowLev r v ≤ TOPI := rowLev_le (by decide) fun j h1 _ => by
  have := (getD_lev hr (j := j) (by rw [← hr.len]; exact h1)).2
  omega
theorem rowV {n : Nat} {t : List (List Int)} (ht : isT n t) {r : List Int} (h : r ∈ t) : isV n r := ⟨ht.row r h, ht.lev r h⟩
theorem rowLev_mono {n : Nat} {r v v' : List Int} (hr : isV n r) (hv : isV n v) (hv' : isV n v') (n1 : 1 ≤ n) (h : leV n v v') : rowLev r v ≤ rowLev r v' :=
  rowLev_le (rowLev_nn hr hv' n1) fun j h1 h2 => by
    have hj : j < n := by rw [← hr.len]; exact h1
    have a := h j hj
    have b := rowLev_ge (r := r) (v := v') (j := j) h1 (by rw [hv'.len]; exact hj)
    omega
theorem levs_isV {n : Nat} {t : List (List Int)} {v : List Int} (ht : isT n t) (hv : isV n v) : isV t.length (levs t v) := by
  refine ⟨List.length_map _, fun x hx => ?_⟩
  obtain ⟨r, hr, rfl⟩ := List.mem_map.mp hx
  exact ⟨rowLev_nn (rowV ht hr) hv ht.n1, rowLev_top (rowV ht hr) hv⟩
theorem levs_eq {t : List (List Int)} {v : List Int} {w : List Int} (h : t.length = w.length) : levs t v = w ↔ ∀ p ∈ List.zip t w, rowLev p.1 v = p.2 := by
  induction t generalizing w with
  | nil =>
    cases w with
    | nil => exact ⟨fun _ p hp => (by cases hp), fun _ => rfl⟩
    | cons a b => cases h
  | cons r t ih =>
    cases w with
    | nil => cases h
    | cons a b =>
      show rowLev r v :: levs t v = a :: b ↔ _
      rw [List.cons.injEq, ih (by simpa using h)]
      constructor
      · intro ⟨h1, h2⟩ p hp
        rcases List.mem_cons.mp hp with e | e
        · subst e
          exact h1
        · exact h2 p e
      · intro h
        exact ⟨h (r, a) List.mem_cons_self, fun p hp => h p (List.mem_cons_of_mem _ hp)⟩
theorem upLev_le {t : List (List Int)} {w : List Int} {j : Nat} {p : List Int × Int} (hp : p ∈ List.zip t w) (h : p.2 < p.1.getD j 0) : upLev t w j ≤ p.2 :=
  mnD_le _ (List.mem_filterMap.mpr ⟨p, hp, if_pos h⟩)
theorem upper_getD {t : List (List Int)} {w : List Int} {n j : Nat} (hj : j < n) : (upper t w n).getD j 0 = upLev t w j := by
  unfold upper
  rw [getD_at (by rw [List.length_map, List.length_range]; exact hj), List.getElem_map, List.getElem_range]
/-- no solution has more than the upper setting -/
theorem sol_le {n : Nat} {t : List (List Int)} {v w : List Int} (ht : isT n t) (hv : isV n v) (hw : t.length = w.length) (h : levs t v = w) : leV n v (upper t w n) := fun j hj => by
  rw [upper_getD hj]
  unfold upLev
  by_cases e : holds t w j = []
  · rw [e]
    exact (getD_lev hv hj).2
  · have hm := mnD_mem (d := TOPI) e
    obtain ⟨p, hp, z⟩ := List.mem_filterMap.mp hm
    by_cases hlt : p.2 < p.1.getD j 0
    · rw [if_pos hlt] at z
      have e2 : mnD (holds t w j) TOPI = p.2 := (Option.some.inj z).symm
      rw [e2]
      have hr := (List.of_mem_zip hp).1
      have h1 := (levs_eq hw).mp h p hp
      have h2 := rowLev_ge (r := p.1) (v := v) (j := j) (by rw [ht.row p.1 hr]; exact hj) (by rw [hv.len]; exact hj)
      omega
    · rw [if_neg hlt] at z
      cases z
theorem upper_below {n : Nat} {t : List (List Int)} {w : List Int} (ht : isT n t) (hw : isV t.length w) {p : List Int × Int} (hp : p ∈ List.zip t w) : rowLev p.1 (upper t w n) ≤ p.2 := by
  have hw2 := hw.lev p.2 (List.of_mem_zip hp).2
  refine rowLev_le hw2.1 fun j h1 h2 => ?_
  have hj : j < n := by rw [← ht.row p.1 (List.of_mem_zip hp).1]; exact h1
  rw [upper_getD hj]
  by_cases hlt : p.2 < p.1.getD j 0
  · have := upLev_le (w := w) hp hlt
    omega
  · omega
/-- between a solution and the upper setting -/
theorem between {n : Nat} {t : List (List Int)} {a x w : List Int} (ht : isT n t) (ha : isV n a) (hx : isV n x) (hw : isV t.length w) (h : levs t a = w) (h1 : leV n a x) (h2 : leV n x (upper t w n)) : levs t x = w := by
  rw [levs_eq hw.len.symm]
  intro p hp
  have hr := rowV ht (List.of_mem_zip hp).1
  have e := (levs_eq hw.len.symm).mp h p hp
  have l1 := rowLev_mono hr ha hx ht.n1 h1
  have l2 := rowLev_mono hr hx (upper_isV ht hw) ht.n1 h2
  have l3 := upper_below ht hw hp
  omega
theorem upper_sol {n : Nat} {t : List (List Int)} {a w : List Int} (ht : isT n t) (ha : isV n a) (hw : isV t.length w) (h : levs t a = w) : levs t (upper t w n) = w :=
  between ht ha (upper_isV ht hw) hw h (sol_le ht ha hw.len.symm h) leV.refl
def isNumD (d : Dt) (n : Int) : Bool := match d with
  | .int i => decide (0 ≤ i) && decide (i < n)
  | _ => false
def rsn2 (t : List (List Int)) (w : List Int) (o j : Nat) (d : Dt) : Bool := match d with
  | .int k => decide (w.getD k.toNat 0 < (t.getD k.toNat []).getD j 0) && decide (w.getD k.toNat 0 < w.getD o 0)
  | _ => false
def rsn (t : List (List Int)) (w : List Int) (o j : Nat) (d : Dt) : Bool := if (t.getD o []).getD j 0 < w.getD o 0 then isN d else (isNumD d t.length && rsn2 t w o j d)
def rsnI (t : List (List Int)) (w : List Int) (o : Nat) (d : Dt) : Bool := match d with
  | .tup [.int j, x] => rsn t w o j.toNat x
  | _ => false
def rsnsD (n : Nat) (t : List (List Int)) (w : List Int) (o : Nat) (d : Dt) : Bool := match d with
  | .tup xs => decide ((xs.length : Int) = (n : Int)) && ((enumD xs).map (rsnI t w o)).all id
  | _ => false
def evD (n : Nat) (t : List (List Int)) (w : List Int) (d : Dt) : Bool := match d with
  | .tup [o, r] => isNumD o t.length && (match o with | .int i => rsnsD n t w i.toNat r | _ => false)
  | _ => false
structure isEv (n : Nat) (t : List (List Int)) (w : List Int) (o : Nat) (xs : List Dt) : Prop where
  o1 : o < t.length
  len : xs.length = n
  ni : ∀ x ∈ xs, isNI x = true
  ok : ∀ j x, xs[j]? = some x → rsn t w o j x = true
theorem rsns_iff {n : Nat} {t : List (List Int)} {w : List Int} {o : Nat} {xs : List Dt} : rsnsD n t w o (.tup xs) = true ↔ xs.length = n ∧ ∀ j x, xs[j]? = some x → rsn t w o j x = true := by
  show (decide ((xs.length : Int) = (n : Int)) && ((enumD xs).map (rsnI t w o)).all id) = true ↔ _
  rw [Bool.and_eq_true, decide_eq_true_eq, List.all_eq_true]
  constructor
  · intro ⟨h1, h2⟩
    refine ⟨by omega, fun j x hx => ?_⟩
    have hj : j < (enumD xs).length := by
      rw [enumD_len]
      exact (List.getElem?_eq_some_iff.mp hx).1
    obtain ⟨y, hy, e⟩ := enumD_get (List.getElem?_eq_getElem hj)
    rw [hx] at hy
    cases hy
    have h3 := h2 _ (List.mem_map.mpr ⟨_, List.getElem_mem hj, rfl⟩)
    rw [e] at h3
    exact h3
  · intro ⟨h1, h2⟩
    refine ⟨by omega, fun b hb => ?_⟩
    obtain ⟨d, hd, rfl⟩ := List.mem_map.mp hb
    obtain ⟨j, hj, e⟩ := List.getElem_of_mem hd
    obtain ⟨y, hy, e2⟩ := enumD_get (List.getElem?_eq_getElem hj)
    rw [← e, e2]
    exact h2 j y hy
theorem tb_at {t : List (List Int)} {o : Nat} (h : o < t.length) : (t.map fun r => vec r)[o]? = some (vec (t.getD o [])) := by
  rw [List.getElem?_map, List.getElem?_eq_getElem h, List.getD_eq_getElem?_getD, List.getElem?_eq_getElem h]
  rfl
theorem row_mem {t : List (List Int)} {o : Nat} (h : o < t.length) : t.getD o [] ∈ t := by
  rw [List.getD_eq_getElem?_getD, List.getElem?_eq_getElem h]
  exact List.getElem_mem h
theorem getD_at0 {l : List Int} {j : Nat} (h : j < l.length) : (iL l)[j]? = some (.int (l.getD j 0)) := by
  rw [List.getElem?_map, List.getElem?_eq_getElem h, List.getD_eq_getElem?_getD, List.getElem?_eq_getElem h]
  rfl
theorem ev_of {n : Nat} {t : List (List Int)} {w : List Int} {o : Nat} {xs : List Dt} (h : isEv n t w o xs) : evD n t w (.tup [.int (o : Nat), .tup xs]) = true := by
  show ((decide (0 ≤ (o : Int)) && decide ((o : Int) < (t.length : Int))) && rsnsD n t w (o : Int).toNat (.tup xs)) = true
  rw [Int.toNat_natCast, rsns_iff.mpr ⟨h.len, h.ok⟩, decide_eq_true (by omega), decide_eq_true (by have := h.o1; omega)]
  rfl
theorem ni_val {x : Dt} (h : isNI x = true) : valD x = true := by
  cases x <;> first | rfl | (cases h; done)
theorem ev_val {o : Nat} {xs : List Dt} (h : ∀ x ∈ xs, isNI x = true) : valD (.tup [.int (o : Nat), .tup xs]) = true := by
  show (true && (valDs xs && true)) = true
  rw [valDs_of fun x hx => ni_val (h x hx)]
  rfl
theorem all2_at {α β : Type} {S : α → β → Prop} {as : List α} {bs : List β} (h : All2 S as bs) : ∀ {j : Nat} {b : β}, bs[j]? = some b → ∃ a, as[j]? = some a ∧ S a b := by
  induction h with
  | nil => intro j b e; simp at e
  | cons x _ ih =>
    intro j b e
    cases j with
    | zero =>
      cases (show _ = b from Option.some.inj e)
      exact ⟨_, rfl, x⟩
    | succ j => exact ih e
theorem levs_getD {t : List (List Int)} {v : List Int} {o : Nat} (h : o < t.length) : (levs t v).getD o 0 = rowLev (t.getD o []) v := by
  unfold levs
  rw [List.getD_eq_getElem?_getD, List.getElem?_map, List.getElem?_eq_getElem h, List.getD_eq_getElem?_getD, List.getElem?_eq_getElem h]
  rfl
theorem zip_at {t : List (List Int)} {w : List Int} {o : Nat} (h : o < t.length) (hw : t.length = w.length) : (t.getD o [], w.getD o 0) ∈ List.zip t w := by
  have h2 : o < w.length := by omega
  have e : (List.zip t w)[o]? = some (t.getD o [], w.getD o 0) := by
    rw [List.getD_eq_getElem?_getD, List.getElem?_eq_getElem h, List.getD_eq_getElem?_getD, List.getElem?_eq_getElem h2]
    exact List.getElem?_eq_some_iff.mpr ⟨by rw [List.length_zip]; omega, List.getElem_zip⟩
  exact List.mem_of_getElem? e
theorem zip_to {t : List (List Int)} {w : List Int} {p : List Int × Int} (h : p ∈ List.zip t w) : ∃ k, k < t.length ∧ k < w.length ∧ p = (t.getD k [], w.getD k 0) := by
  obtain ⟨k, hk, e⟩ := List.getElem_of_mem h
  rw [List.length_zip] at hk
  refine ⟨k, by omega, by omega, ?_⟩
  rw [← e, List.getElem_zip, List.getD_eq_getElem?_getD, List.getElem?_eq_getElem (by omega), List.getD_eq_getElem?_getD, List.getElem?_eq_getElem (by omega)]
  rfl
/-- an outlet that gets less than it wants at the upper setting has its reasons -/
theorem short_reason {n : Nat} {t : List (List Int)} {w : List Int} (ht : isT n t) (hw : isV t.length w) {o : Nat} (ho : o < t.length) (h : (levs t (upper t w n)).getD o 0 < w.getD o 0) :
    ∀ j, j < n → ∃ k : Nat, k < t.length ∧ (w.getD o 0 ≤ (t.getD o []).getD j 0 → rsn t w o j (.int (k : Nat)) = true) := fun j hj => by
  rw [levs_getD ho] at h
  by_cases hle : w.getD o 0 ≤ (t.getD o []).getD j 0
  · have h1 := rowLev_ge (r := t.getD o []) (v := upper t w n) (j := j) (by rw [ht.row _ (row_mem ho)]; exact hj) (by rw [(upper_isV ht hw).len]; exact hj)
    rw [upper_getD hj] at h1
    have hup : upLev t w j < w.getD o 0 := by omega
    have hne : holds t w j ≠ [] := fun z => by
      have e : upLev t w j = TOPI := by
        unfold upLev
        rw [z]
        rfl
      have := (getD_lev hw ho).2
      omega
    have hm := mnD_mem (d := TOPI) hne
    obtain ⟨p, hp, z⟩ := List.mem_filterMap.mp hm
    obtain ⟨k, k1, k2, rfl⟩ := zip_to hp
    split at z
    · rename_i hlt
      have e2 : upLev t w j = w.getD k 0 := (Option.some.inj z).symm
      refine ⟨k, k1, fun _ => ?_⟩
      unfold rsn
      rw [if_neg (by omega)]
      show ((decide (0 ≤ (k : Int)) && decide ((k : Int) < (t.length : Int))) && (decide (w.getD (k : Int).toNat 0 < (t.getD (k : Int).toNat []).getD j 0) && decide (w.getD (k : Int).toNat 0 < w.getD o 0))) = true
      have hlt2 : w.getD k 0 < (t.getD k []).getD j 0 := hlt
      rw [Int.toNat_natCast, decide_eq_true (by omega), decide_eq_true (by omega), decide_eq_true hlt2, decide_eq_true (by omega)]
      rfl
    · cases z
  · exact ⟨o, ho, fun z => absurd z hle⟩
theorem upper_eq {n : Nat} {t : List (List Int)} {w : List Int} (ht : isT n t) (hw : isV t.length w) (h : ∀ i, i < t.length → w.getD i 0 ≤ (levs t (upper t w n)).getD i 0) : levs t (upper t w n) = w := by
  rw [levs_eq hw.len.symm]
  intro p hp
  obtain ⟨k, k1, k2, rfl⟩ := zip_to hp
  have h1 := h k k1
  rw [levs_getD k1] at h1
  have h2 := upper_below ht hw hp
  show rowLev (t.getD k []) _ = w.getD k 0
  have h3 : rowLev (t.getD k []) (upper t w n) ≤ w.getD k 0 := h2
  omega
/-- evidence against a setting -/
theorem ev_against {n : Nat} {t : List (List Int)} {w v : List Int} {o : Nat} {xs : List Dt} (ht : isT n t) (hv : isV n v) (hw : isV t.length w) (h1 : rsnsD n t w o (.tup xs) = true) (ho : o < t.length) (hge : w.getD o 0 ≤ (levs t v).getD o 0) : ∃ k, k < t.length ∧ w.getD k 0 < (levs t v).getD k 0 := by
  obtain ⟨hl, hx⟩ := rsns_iff.mp h1
  rw [levs_getD ho] at hge
  have hr : isV n (t.getD o []) := rowV ht (row_mem ho)
  have n1 := ht.n1
  have hne : List.zipWith min (t.getD o []) v ≠ [] := fun z => by
    have zl : (List.zipWith min (t.getD o []) v).length = 0 := by rw [z]; rfl
    rw [List.length_zipWith, hr.len, hv.len] at zl
    omega
  obtain ⟨j, j1, j2, e⟩ := zw_mem (mx_mem hne)
  have hj : j < n := by rw [← hv.len]; exact j2
  have e2 : rowLev (t.getD o []) v = min ((t.getD o []).getD j 0) (v.getD j 0) := e
  have hxj : xs[j]? = some (xs[j]'(by omega)) := List.getElem?_eq_getElem _
  have hrs := hx j _ hxj
  generalize xs[j]'(by omega) = x at hrs
  unfold rsn at hrs
  rw [if_neg (by omega), Bool.and_eq_true] at hrs
  cases x with
  | int k =>
    have g1 : (decide (0 ≤ k) && decide (k < (t.length : Int))) = true := hrs.1
    have g2 : (decide (w.getD k.toNat 0 < (t.getD k.toNat []).getD j 0) && decide (w.getD k.toNat 0 < w.getD o 0)) = true := hrs.2
    rw [Bool.and_eq_true, decide_eq_true_eq, decide_eq_true_eq] at g1 g2
    have hk : k.toNat < t.length := by omega
    refine ⟨k.toNat, hk, ?_⟩
    rw [levs_getD hk]
    have g3 := rowLev_ge (r := t.getD k.toNat []) (v := v) (j := j) (by rw [ht.row _ (row_mem hk)]; exact hj) j2
    omega
  | _ => exact absurd hrs.1 (by simp [isNumD])
def sp_is_integer (K : PySem.W.Frag) : Sp := mk K anyI fun ds _ p => ∃ d, ds = [d] ∧ valD d = true ∧ p (.bl (isIntD d))
def sp_is_level (K : PySem.W.Frag) : Sp := mk K anyI fun ds _ p => ∃ d, ds = [d] ∧ valD d = true ∧ p (.bl (isLevD d))
def sp_is_tuple_of (K : PySem.W.Frag) : Sp := mk K anyI fun ds _ p => ∃ d n, ds = [d, .int n] ∧ valD d = true ∧ p (.bl (isTupN d n))
def sp_are_levels (K : PySem.W.Frag) : Sp := mk K anyI fun ds _ p => ∃ d n, ds = [d, .int n] ∧ valD d = true ∧ n ≤ 1000 ∧ p (.bl (areLevD d n))
def sp_is_setting (K : PySem.W.Frag) : Sp := mk K anyI fun ds _ p => ∃ n t d, ds = [tbl t, d] ∧ isT n t ∧ valD d = true ∧ p (.bl (areLevD d n))
def sp_are_wants (K : PySem.W.Frag) : Sp := mk K anyI fun ds _ p => ∃ n t d, ds = [tbl t, d] ∧ isT n t ∧ valD d = true ∧ p (.bl (areLevD d t.length))
def sp_level_of (K : PySem.W.Frag) : Sp := mk K anyI fun ds _ p => ∃ n r v, ds = [vec r, vec v] ∧ r.length = n ∧ v.length = n ∧ 1 ≤ n ∧ n ≤ 6 ∧ p (.int (rowLev r v))
def sp_levels_of (K : PySem.W.Frag) : Sp := mk K anyI fun ds _ p => ∃ n t v, ds = [tbl t, vec v] ∧ isT n t ∧ isV n v ∧ p (vec (levs t v))
def sp_upper_level (K : PySem.W.Frag) : Sp := mk K anyI fun ds _ p => ∃ n t wv j, ds = [tbl t, vec wv, .int (j : Nat)] ∧ isT n t ∧ isV t.length wv ∧ j < n ∧ p (.int (upLev t wv j))
def sp_upper_setting (K : PySem.W.Frag) : Sp := mk K anyI fun ds _ p => ∃ n t wv, ds = [tbl t, vec wv] ∧ isT n t ∧ isV t.length wv ∧ p (vec (upper t wv n))
def sp_is_solution (K : PySem.W.Frag) : Sp := mk K anyI fun ds _ p => ∃ n t wv d, ds = [tbl t, vec wv, d] ∧ isT n t ∧ isV t.length wv ∧ valD d = true ∧ p (.bl (solD n t wv d))
def sp_is_number_below (K : PySem.W.Frag) : Sp := mk K anyI fun ds _ p => ∃ d n, ds = [d, .int n] ∧ valD d = true ∧ p (.bl (isNumD d n))
def sp_is_reason (K : PySem.W.Frag) : Sp := mk K anyI fun ds _ p => ∃ n t wv o j d, ds = [tbl t, vec wv, .int (o : Nat), .int (j : Nat), d] ∧ isT n t ∧ isV t.length wv ∧ o < t.length ∧ j < n ∧ valD d = true ∧ p (.bl (rsn t wv o j d))
def sp_are_reasons (K : PySem.W.Frag) : Sp := mk K anyI fun ds _ p => ∃ n t wv o d, ds = [tbl t, vec wv, .int (o : Nat), d] ∧ isT n t ∧ isV t.length wv ∧ o < t.length ∧ valD d = true ∧ p (.bl (rsnsD n t wv o d))
def sp_is_evidence (K : PySem.W.Frag) : Sp := mk K anyI fun ds _ p => ∃ n t wv d, ds = [tbl t, vec wv, d] ∧ isT n t ∧ isV t.length wv ∧ valD d = true ∧ p (.bl (evD n t wv d))
def sp_reason_of (K : PySem.W.Frag) : Sp := mk K anyI fun ds _ p => ∃ n t wv o j, ds = [tbl t, vec wv, .int (o : Nat), .int (j : Nat)] ∧ isT n t ∧ isV t.length wv ∧ o < t.length ∧ j < n ∧ (∃ k : Nat, k < t.length ∧ (wv.getD o 0 ≤ (t.getD o []).getD j 0 → rsn t wv o j (.int (k : Nat)) = true)) ∧ ∀ d, isNI d = true → rsn t wv o j d = true → p d
def sp_reasons_of (K : PySem.W.Frag) : Sp := mk K anyI fun ds _ p => ∃ n t wv o, ds = [tbl t, vec wv, .int (o : Nat)] ∧ isT n t ∧ isV t.length wv ∧ o < t.length ∧ (∀ j, j < n → ∃ k : Nat, k < t.length ∧ (wv.getD o 0 ≤ (t.getD o []).getD j 0 → rsn t wv o j (.int (k : Nat)) = true)) ∧ ∀ xs : List Dt, xs.length = n → (∀ x ∈ xs, isNI x = true) → (∀ j x, xs[j]? = some x → rsn t wv o j x = true) → p (.tup xs)
def sp_find_evidence (K : PySem.W.Frag) : Sp := mk K anyI fun ds _ p => ∃ n t wv, ds = [tbl t, vec wv] ∧ isT n t ∧ isV t.length wv ∧ (levs t (upper t wv n) = wv → p .non) ∧ ∀ o xs, isEv n t wv o xs → p (.tup [.int (o : Nat), .tup xs])
def sp_certificate (K : PySem.W.Frag) : Sp := mk K anyI fun ds _ p => ∃ n t wv, ds = [tbl t, vec wv] ∧ isT n t ∧ isV t.length wv ∧ (levs t (upper t wv n) = wv → p (.tup [.str "setting", vec (upper t wv n)])) ∧ ∀ o xs, isEv n t wv o xs → p (.tup [.str "evidence", .tup [.int (o : Nat), .tup xs]])
section
variable {P : Program} {w : World} {K : PySem.W.Frag} {mg : Str → Option Value} {base : Heap}
theorem ok_is_integer {a0 : Addr} {fd0 : FuncData} (F0 : Fun K "is_integer" "is_integer" s_is_integer a0 fd0) (z_isinstance : mg "isinstance" = none) (z_int : mg "int" = none) (z_bool : mg "bool" = none) : FnOk P w K mg base CX0 1 a0 fd0 ["value"] (sp_is_integer K) := by
  refine fn_mk F0 sc_is_integer (fun ds c p h => ?_) (fun cdv A outer s H E hr => ⟨_, (pss_one (by exact ps_ret (by exact pe_and (by exact pe_callB (isiK K) (by rfl) z_isinstance boot_isinstance (by exact pa_cons (pv 0) (by exact pa_cons (by exact pe_bltn (v := .ty "int") (by rfl) z_int boot_int rfl) pa_nil))) (by exact pe_one (by exact pe_not (by exact pe_callB (isiK K) (by rfl) z_isinstance boot_isinstance (by exact pa_cons (pv 0) (by exact pa_cons (by exact pe_bltn (v := .ty "bool") (by rfl) z_bool boot_bool rfl) pa_nil)))))))), fun ds I c R hI hS => ?_⟩)
  · obtain ⟨d, rfl, _⟩ := h
    rfl
  · obtain ⟨d, rfl, hv, hp⟩ := hS
    have hpl := valD.plain hv
    refine Sv.le (sv_ret ((e_and (e_cb (a_cons (ev_var rfl) (a_cons ev_cls a_nil)) (cd_isi hpl (kit_int hpl))) fun _ => e_not (e_cb (a_cons (ev_var rfl) (a_cons ev_cls a_nil)) (cd_isi hpl (kit_bool hpl)))).imp fun _ e => ?_)) (by omega)
    rw [e]
    cases d <;> first | exact hp | (cases hpl; done)
theorem ok_is_level {a0 : Addr} {fd0 : FuncData} (F0 : Fun K "is_level" "is_level" s_is_level a0 fd0) (C_is_integer : Cal P w K mg base 1 "is_integer" ["value"] (sp_is_integer K)) (m_TOP : ∃ t, mg "TOP" = some (.int 1000000000000 t)) : FnOk P w K mg base CX0 2 a0 fd0 ["value"] (sp_is_level K) := by
  refine fn_mk F0 sc_is_level (fun ds c p h => ?_) (fun cdv A outer s H E hr => ⟨_, (pss_one (by exact ps_ret (by exact pe_and (by exact pe_cal C_is_integer (hr.mono (by decide)) (by rfl) (by exact pa_cons (pv 0) pa_nil)) (by exact pe_one (by exact pe_chain op_le op_le pe_int (pv 0) (by exact pe_gint m_TOP (by rfl))))))), fun ds I c R hI hS => ?_⟩)
  · obtain ⟨d, rfl, _⟩ := h
    rfl
  · obtain ⟨d, rfl, hv, hp⟩ := hS
    cases hi : isIntD d with
    | false =>
      refine Sv.le (sv_ret ((e_and (c2 := 0) (b := isIntD d) (b2 := false) (e_call (c2 := 0) (a_cons (ev_var rfl) a_nil) trivial ⟨d, rfl, hv, rfl⟩) fun e => ?_).imp fun _ e => ?_)) (by omega)
      · rw [hi] at e
        cases e
      · rw [e, hi]
        cases d <;> first | exact hp | (cases hi; done)
    | true =>
      cases d with
      | int i =>
        refine Sv.le (sv_ret ((e_and (e_call (c2 := 0) (a_cons (ev_var rfl) a_nil) trivial ⟨.int i, rfl, hv, rfl⟩) fun e => e_chain ev_int (ev_var rfl) opd_le (fun _ => ev_int) (fun _ => opd_le)).imp fun _ e => ?_)) (by omega)
        rw [e]
        exact hp
      | _ => cases hi
theorem ok_is_number_below {a0 : Addr} {fd0 : FuncData} (F0 : Fun K "is_number_below" "is_number_below" s_is_number_below a0 fd0) (C_is_integer : Cal P w K mg base 1 "is_integer" ["value"] (sp_is_integer K)) : FnOk P w K mg base CX0 2 a0 fd0 ["value", "many"] (sp_is_number_below K) := by
  refine fn_mk F0 sc_is_number_below (fun ds c p h => ?_) (fun cdv A outer s H E hr => ⟨_, (pss_one (by exact ps_ret (by exact pe_and (by exact pe_cal C_is_integer (hr.mono (by decide)) (by rfl) (by exact pa_cons (pv 0) pa_nil)) (by exact pe_one (by exact pe_chain op_le op_lt pe_int (pv 0) (pv 1)))))), fun ds I c R hI hS => ?_⟩)
  · obtain ⟨d, n, rfl, _⟩ := h
    rfl
  · obtain ⟨d, n, rfl, hv, hp⟩ := hS
    cases hi : isIntD d with
    | false =>
      refine Sv.le (sv_ret ((e_and (c2 := 0) (b := isIntD d) (b2 := false) (e_call (c2 := 0) (a_cons (ev_var rfl) a_nil) trivial ⟨d, rfl, hv, rfl⟩) fun e => ?_).imp fun _ e => ?_)) (by omega)
      · rw [hi] at e
        cases e
      · rw [e, hi]
        cases d <;> first | exact hp | (cases hi; done)
    | true =>
      cases d with
      | int i =>
        refine Sv.le (sv_ret ((e_and (e_call (c2 := 0) (a_cons (ev_var rfl) a_nil) trivial ⟨.int i, rfl, hv, rfl⟩) fun e => e_chain ev_int (ev_var rfl) opd_le (fun _ => ev_var rfl) (fun _ => opd_lt)).imp fun _ e => ?_)) (by omega)
        rw [e]
        exact hp
      | _ => cases hi
theorem ok_is_tuple_of {a0 : Addr} {fd0 : FuncData} (F0 : Fun K "is_tuple_of" "is_tuple_of" s_is_tuple_of a0 fd0) (z_isinstance : mg "isinstance" = none) (z_tuple : mg "tuple" = none) (z_len : mg "len" = none) : FnOk P w K mg base CX0 1 a0 fd0 ["value", "many"] (sp_is_tuple_of K) := by
  refine fn_mk F0 sc_is_tuple_of (fun ds c p h => ?_) (fun cdv A outer s H E hr => ⟨_, (pss_one (by exact ps_ret (by exact pe_and (by exact pe_callB (isiK K) (by rfl) z_isinstance boot_isinstance (by exact pa_cons (pv 0) (by exact pa_cons (by exact pe_bltn (v := .ty "tuple") (by rfl) z_tuple boot_tuple rfl) pa_nil))) (by exact pe_one (by exact pe_cmpR op_eq (by exact pe_callB (lenK K) (by rfl) z_len PySem.boot_len (by exact pa_cons (pv 0) pa_nil)) (pv 1) (nomark _)))))), fun ds I c R hI hS => ?_⟩)
  · obtain ⟨d, n, rfl, _⟩ := h
    rfl
  · obtain ⟨d, n, rfl, hv, hp⟩ := hS
    have hpl := valD.plain hv
    cases hi : isTupD d with
    | false =>
      refine Sv.le (sv_ret ((e_and (c2 := 0) (b := isTupD d) (b2 := false) (e_cb (a_cons (ev_var rfl) (a_cons ev_cls a_nil)) (cd_isi hpl (kit_tup hpl))) fun e => ?_).imp fun _ e => ?_)) (by omega)
      · rw [hi] at e
        cases e
      · rw [e, hi]
        cases d <;> first | exact hp | (cases hi; done)
    | true =>
      cases d with
      | tup xs =>
        refine Sv.le (sv_ret ((e_and (e_cb (a_cons (ev_var rfl) (a_cons ev_cls a_nil)) (cd_isi hpl (kit_tup hpl))) fun e => e_op (e_cb (a_cons (ev_var rfl) a_nil) (cd_len rfl)) (ev_var rfl) (opd_eq rfl)).imp fun _ e => ?_)) (by omega)
        rw [e]
        exact hp
      | _ => cases hi
theorem ok_are_levels {a0 : Addr} {fd0 : FuncData} (F0 : Fun K "are_levels" "are_levels" s_are_levels a0 fd0) (C_is_tuple_of : Cal P w K mg base 1 "is_tuple_of" ["value", "many"] (sp_is_tuple_of K)) (C_is_level : Cal P w K mg base 2 "is_level" ["value"] (sp_is_level K)) (z_all : mg "all" = none) : FnOk P w K mg base CX0 3 a0 fd0 ["value", "many"] (sp_are_levels K) := by
  refine fn_mk F0 sc_are_levels (fun ds c p h => ?_) (fun cdv A outer s H E hr => ⟨_, (pss_one (by exact ps_ret (by exact pe_and (by exact pe_cal C_is_tuple_of (hr.mono (by decide)) (by rfl) (by exact pa_cons (pv 0) (by exact pa_cons (pv 1) pa_nil))) (by exact pe_one (by exact pe_callB (allK K) (by rfl) z_all boot_all (by exact pa_cons (by exact pe_lc (own := [("part", 2)]) (g := gName 2) (by rfl) sc_are_levels.nd (by exact piT K (pv 0)) (blkOk_by (own := [("part", 2)]) (N := ["value", "many", "part"]) (sc := defScope s_are_levels) (by decide +kernel)) (fun _ _ _ _ _ => (by exact pg_name (i := 2) sc_are_levels.nd rfl (.inl rfl))) (fun _ _ _ _ _ => pts_nil) (fun _ _ _ _ _ => (by exact pe_cal C_is_level (hr.mono (by decide)) (by rfl) (by exact pa_cons (pv 2) pa_nil)))) pa_nil)))))), fun ds I c R hI hS => ?_⟩)
  · obtain ⟨d, n, rfl, _⟩ := h
    rfl
  · obtain ⟨d, n, rfl, hv, hn, hp⟩ := hS
    cases hi : isTupN d n with
    | false =>
      refine Sv.le (sv_ret ((e_and (c2 := 0) (b := isTupN d n) (b2 := false) (e_call (c2 := 0) (a_cons (ev_var rfl) (a_cons (ev_var rfl) a_nil)) trivial ⟨d, n, rfl, hv, rfl⟩) fun e => ?_).imp fun _ e => ?_)) (by omega)
      · rw [hi] at e
        cases e
      · have z : areLevD d n = false := by
          cases d with
          | tup xs =>
            show (isTupN (.tup xs) n && xs.all isLevD) = false
            rw [hi]
            rfl
          | _ => rfl
        rw [z] at hp
        rw [e, hi]
        exact hp
    | true =>
      cases d with
      | tup xs =>
        have hl : (xs.length : Int) = n := of_decide_eq_true hi
        refine Sv.le (sv_ret ((e_and (e_call (c2 := 0) (a_cons (ev_var rfl) (a_cons (ev_var rfl) a_nil)) trivial ⟨.tup xs, n, rfl, hv, rfl⟩) fun e => e_cb (ds := [.lst ((xs.map isLevD).map Dt.bl)]) (a_cons ((e_map (n := 1000) (fun d Δ => Δ.set 2 (some d)) (fun d => .bl (isLevD d)) (i_tup (ev_var rfl)) (by omega) (by decide) (fun j h => h) fun d hd => ⟨gd_name, e_call (c2 := 0) (a_cons (ev_var rfl) a_nil) trivial ⟨d, rfl, valD_tup hv d hd, rfl⟩⟩).to (by rw [List.map_map]; rfl)) a_nil) cd_all).imp fun _ e => ?_)) (by omega)
        rw [e, List.all_map]
        exact hp
      | _ => cases hi
theorem ok_is_setting {a0 : Addr} {fd0 : FuncData} (F0 : Fun K "is_setting" "is_setting" s_is_setting a0 fd0) (C_are_levels : Cal P w K mg base 3 "are_levels" ["value", "many"] (sp_are_levels K)) (z_len : mg "len" = none) : FnOk P w K mg base CX0 4 a0 fd0 ["table", "value"] (sp_is_setting K) := by
  refine fn_mk F0 sc_is_setting (fun ds c p h => ?_) (fun cdv A outer s H E hr => ⟨_, (pss_one (by exact ps_ret (by exact pe_cal C_are_levels (hr.mono (by decide)) (by rfl) (by exact pa_cons (pv 1) (by exact pa_cons (by exact pe_callB (lenK K) (by rfl) z_len PySem.boot_len (by exact pa_cons (by exact pe_ix (ixs K) (pv 0) pe_int (fun _ _ => rfl)) pa_nil)) pa_nil))))), fun ds I c R hI hS => ?_⟩)
  · obtain ⟨n, t, d, rfl, _⟩ := h
    rfl
  · obtain ⟨n, t, d, rfl, ht, hv, hp⟩ := hS
    have hne := ht.ne
    obtain ⟨r0, tr, rfl⟩ : ∃ r0 tr, t = r0 :: tr := by
      cases t with
      | nil => exact absurd rfl hne
      | cons a b => exact ⟨a, b, rfl⟩
    have h0 : r0.length = n := ht.row r0 List.mem_cons_self
    refine Sv.le (sv_ret (e_call (c2 := 0) (a_cons (ev_var rfl) (a_cons (e_cb (a_cons (e_op (ev_var rfl) ev_int (opd_ix (d := vec r0) rfl (atI_nat (j := 0) rfl))) a_nil) (cd_len rfl)) a_nil)) trivial ⟨d, _, rfl, hv, ?_, ?_⟩)) (by omega)
    · rw [List.length_map, h0]
      have := ht.n6
      omega
    · rw [List.length_map, h0]
      exact hp
theorem ok_are_wants {a0 : Addr} {fd0 : FuncData} (F0 : Fun K "are_wants" "are_wants" s_are_wants a0 fd0) (C_are_levels : Cal P w K mg base 3 "are_levels" ["value", "many"] (sp_are_levels K)) (z_len : mg "len" = none) : FnOk P w K mg base CX0 4 a0 fd0 ["table", "value"] (sp_are_wants K) := by
  refine fn_mk F0 sc_are_wants (fun ds c p h => ?_) (fun cdv A outer s H E hr => ⟨_, (pss_one (by exact ps_ret (by exact pe_cal C_are_levels (hr.mono (by decide)) (by rfl) (by exact pa_cons (pv 1) (by exact pa_cons (by exact pe_callB (lenK K) (by rfl) z_len PySem.boot_len (by exact pa_cons (pv 0) pa_nil)) pa_nil))))), fun ds I c R hI hS => ?_⟩)
  · obtain ⟨n, t, d, rfl, _⟩ := h
    rfl
  · obtain ⟨n, t, d, rfl, ht, hv, hp⟩ := hS
    refine Sv.le (sv_ret (e_call (c2 := 0) (a_cons (ev_var rfl) (a_cons (e_cb (a_cons (ev_var rfl) a_nil) (cd_len rfl)) a_nil)) trivial ⟨d, _, rfl, hv, ?_, ?_⟩)) (by omega)
    · rw [List.length_map]
      have := ht.le
      omega
    · rw [List.length_map]
      exact hp
theorem ok_level_of {a0 : Addr} {fd0 : FuncData} (F0 : Fun K "level_of" "level_of" s_level_of a0 fd0) (z_max : mg "max" = none) (z_min : mg "min" = none) (z_zip : mg "zip" = none) : FnOk P w K mg base CX0 1 a0 fd0 ["row", "setting"] (sp_level_of K) := by
  refine fn_mk F0 sc_level_of (fun ds c p h => ?_) (fun cdv A outer s H E hr => ⟨_, (pss_one (by exact ps_ret (by exact pe_callB (maxK K) (by rfl) z_max boot_max (by exact pa_cons (by exact pe_lc (own := [("width", 2), ("level", 3)]) (g := gTup K 2 (gCons (gName 2) (gCons (gName 3) (gNil)))) (by rfl) sc_level_of.nd (by exact piZ K (by rfl) z_zip (by exact pa_cons (pv 0) (by exact pa_cons (pv 1) pa_nil))) (blkOk_by (own := [("width", 2), ("level", 3)]) (N := ["row", "setting", "width", "level"]) (sc := defScope s_level_of) (by decide +kernel)) (fun _ _ _ _ _ => (by exact pg_tup (by rfl) (by exact pgs_cons (by exact pg_name (i := 2) sc_level_of.nd rfl (.inl rfl)) (by exact pgs_cons (by exact pg_name (i := 3) sc_level_of.nd rfl (.inl rfl)) pgs_nil)))) (fun _ _ _ _ _ => pts_nil) (fun _ _ _ _ _ => (by exact pe_callB (call_min2Q (by rfl)) (by rfl) z_min boot_min (by exact pa_cons (pv 2) (by exact pa_cons (pv 3) pa_nil))))) pa_nil)))), fun ds I c R hI hS => ?_⟩)
  · obtain ⟨n, r, v, rfl, _⟩ := h
    rfl
  · obtain ⟨n, r, v, rfl, hr0, hv0, n1, n6, hp⟩ := hS
    have hz : zipD (iL r) (iL v) = (List.zip r v).map fun p => Dt.tup [.int p.1, .int p.2] := zipD_ints r v
    refine Sv.le (sv_ret (e_cb (ds := [.lst (iL (List.zipWith min r v))]) (a_cons ((e_map (ce := 0) (n := 6) (js := [2, 3]) (fun d Δ => match d with | .tup [x, y] => (Δ.set 2 (some x)).set 3 (some y) | _ => Δ) (fun d => match d with | .tup [.int a, .int b] => .int (min a b) | _ => .non) (i_zip (a_cons (ev_var rfl) (a_cons (ev_var rfl) a_nil))) ?_ (by decide) (fun j h => h) fun d hd => ?_).to ?_) a_nil) ?_)) (by omega)
    · rw [zipD_len, List.length_map, List.length_map]
      omega
    · rw [hz] at hd
      obtain ⟨p, _, rfl⟩ := List.mem_map.mp hd
      exact ⟨gd_pair, e_cb (a_cons (ev_var rfl) (a_cons (ev_var rfl) a_nil)) cd_min2⟩
    · rw [hz, List.map_map]
      show Dt.lst _ = Dt.lst _
      congr 1
      show List.map _ (List.zip r v) = List.map Dt.int (List.zipWith min r v)
      rw [List.zip, List.map_zipWith, List.map_zipWith]
      rfl
    · intro vs G F R2 H s hd Q q
      have hne : List.zipWith min r v ≠ [] := fun z => by
        have zl : (List.zipWith min r v).length = 0 := by rw [z]; rfl
        rw [List.length_zipWith] at zl
        omega
      refine cd_max hne vs G F R2 H s hd Q fun z d G2 H2 e1 e2 e3 e4 => ?_
      obtain ⟨m, rfl, m1, m2⟩ := e4
      refine q z _ G2 H2 e1 e2 e3 ?_
      rw [mx_of m1 m2]
      exact hp
theorem ok_levels_of {a0 : Addr} {fd0 : FuncData} (F0 : Fun K "levels_of" "levels_of" s_levels_of a0 fd0) (C_is_setting : Cal P w K mg base 4 "is_setting" ["table", "value"] (sp_is_setting K)) (C_level_of : Cal P w K mg base 1 "level_of" ["row", "setting"] (sp_level_of K)) (z_tuple : mg "tuple" = none) : FnOk P w K mg base CX0 5 a0 fd0 ["table", "setting"] (sp_levels_of K) := by
  refine fn_mk F0 sc_levels_of (fun ds c p h => ?_) (fun cdv A outer s H E hr => ⟨_, (pss_cons (by exact ps_if (by exact pt_not (by exact pt_val (by exact pe_cal C_is_setting (hr.mono (by decide)) (by rfl) (by exact pa_cons (pv 0) (by exact pa_cons (pv 1) pa_nil))))) (by exact pss_one ps_never) pss_nil) (by exact pss_one (by exact ps_ret (by exact pe_callTy (tupleK K) (by rfl) z_tuple boot_tuple (by exact pa_cons (by exact pe_lc (own := [("row", 2)]) (g := gName 2) (by rfl) sc_levels_of.nd (by exact piT K (pv 0)) (blkOk_by (own := [("row", 2)]) (N := ["table", "setting", "row"]) (sc := defScope s_levels_of) (by decide +kernel)) (fun _ _ _ _ _ => (by exact pg_name (i := 2) sc_levels_of.nd rfl (.inl rfl))) (fun _ _ _ _ _ => pts_nil) (fun _ _ _ _ _ => (by exact pe_cal C_level_of (hr.mono (by decide)) (by rfl) (by exact pa_cons (pv 2) (by exact pa_cons (pv 1) pa_nil))))) pa_nil))))), fun ds I c R hI hS => ?_⟩)
  · obtain ⟨n, t, v, rfl, _⟩ := h
    rfl
  · obtain ⟨n, t, v, rfl, ht, hv, hp⟩ := hS
    have hs : areLevD (vec v) n = true := areLev_vec.mpr hv
    refine Sv.le (v_ifs (t_not (t_B (e_call (c2 := 0) (a_cons (ev_var rfl) (a_cons (ev_var rfl) a_nil)) trivial ⟨n, t, vec v, rfl, ht, val_vec v, rfl⟩))) (fun e => v_no (c := 0) ?_) fun _ => sv_nextS (sv_ret (e_cb (ds := [.lst (iL (levs t v))]) (a_cons ((e_map (ce := 0) (n := 6) (js := [2]) (fun d Δ => Δ.set 2 (some d)) (fun d => .int (rowLev (unI d) v)) (i_tup (ev_var rfl)) ?_ (by decide) (fun j h => h) fun d hd => ?_).to ?_) a_nil) ?_))) (by omega)
    · rw [hs] at e
      cases e
    · rw [List.length_map]
      exact ht.le
    · obtain ⟨r, hr2, rfl⟩ := List.mem_map.mp hd
      refine ⟨gd_name, e_call (c2 := 0) (a_cons (ev_var rfl) (a_cons (ev_var rfl) a_nil)) trivial ⟨n, r, v, rfl, ht.row r hr2, hv.len, ht.n1, ht.n6, ?_⟩⟩
      rw [unI_vec]
    · rw [List.map_map]
      show Dt.lst _ = Dt.lst _
      congr 1
      show _ = List.map Dt.int (List.map _ t)
      rw [List.map_map]
      refine List.map_congr_left fun r _ => ?_
      show Dt.int (rowLev (unI (vec r)) v) = _
      rw [unI_vec]
      rfl
    · intro vs G F R2 H s hd Q q
      refine cd_tuple rfl vs G F R2 H s hd Q fun z d G2 H2 e1 e2 e3 e4 => q z d G2 H2 e1 e2 e3 ?_
      rw [e4]
      exact hp
theorem ok_upper_level {a0 : Addr} {fd0 : FuncData} (F0 : Fun K "upper_level" "upper_level" s_upper_level a0 fd0) (z_min : mg "min" = none) (z_zip : mg "zip" = none) (m_TOP : ∃ t, mg "TOP" = some (.int 1000000000000 t)) : FnOk P w K mg base CX0 1 a0 fd0 ["table", "wants", "inlet"] (sp_upper_level K) := by
  refine fn_mk F0 sc_upper_level (fun ds c p h => ?_) (fun cdv A outer s H E hr => ⟨_, (pss_one (by exact ps_ret (by exact pe_callBK (minDK K) (by rfl) z_min boot_min (by exact pa_cons (by exact pe_lc (own := [("row", 3), ("want", 4)]) (g := gTup K 2 (gCons (gName 3) (gCons (gName 4) (gNil)))) (by rfl) sc_upper_level.nd (by exact piZ K (by rfl) z_zip (by exact pa_cons (pv 0) (by exact pa_cons (pv 1) pa_nil))) (blkOk_by (own := [("row", 3), ("want", 4)]) (N := ["table", "wants", "inlet", "row", "want"]) (sc := defScope s_upper_level) (by decide +kernel)) (fun _ _ _ _ _ => (by exact pg_tup (by rfl) (by exact pgs_cons (by exact pg_name (i := 3) sc_upper_level.nd rfl (.inl rfl)) (by exact pgs_cons (by exact pg_name (i := 4) sc_upper_level.nd rfl (.inl rfl)) pgs_nil)))) (fun _ _ _ _ _ => (by exact pts_one (by exact pt_cmpR op_gt (by exact pe_ix (ixs K) (pv 3) (pv 2) (fun _ _ => rfl)) (pv 4) (nomark _)))) (fun _ _ _ _ _ => (pv 4))) pa_nil) (by exact pk_cons (by exact pe_gint m_TOP (by rfl)) pk_nil)))), fun ds I c R hI hS => ?_⟩)
  · obtain ⟨n, t, wv, j, rfl, _⟩ := h
    rfl
  · obtain ⟨n, t, wv, j, rfl, ht, hw, hj, hp⟩ := hS
    have hz : zipD (t.map fun r => vec r) (iL wv) = (List.zip t wv).map fun p => Dt.tup [vec p.1, .int p.2] := zipD_rows t wv
    have hat : ∀ p ∈ List.zip t wv, ∃ x, p.1[j]? = some x := fun p hp2 => by
      have hm := (List.of_mem_zip hp2).1
      have hl := ht.row p.1 hm
      exact ⟨p.1[j]'(by omega), List.getElem?_eq_getElem _⟩
    refine Sv.le (sv_ret (ev_minD (Ps := (· = [.lst (iL (holds t wv j))])) (Qs := (· = [.int TOPI])) (a_cons ((e_lc (n := 6) (ct := 0) (ce := 0) (js := [3, 4]) (i_zip (a_cons (ev_var rfl) (a_cons (ev_var rfl) a_nil))) ?_ (by decide) (fun j h => h) (fun d Δ => match d with | .tup [x, y] => (Δ.set 3 (some x)).set 4 (some y) | _ => Δ) (fun d => match d with | .tup [.tup xs, .int b] => (if b < (unI (.tup xs)).getD j 0 then some (.int b) else none) | _ => none) fun d hd => ?_).to ?_) a_nil) (a_cons ev_int a_nil) fun xs zs e1 e2 => ?_)) (by omega)
    · rw [hz, List.length_map, List.length_zip]
      have := ht.le
      omega
    · rw [hz] at hd
      obtain ⟨p, hp2, rfl⟩ := List.mem_map.mp hd
      obtain ⟨x, hx⟩ := hat p hp2
      have hx2 : (iL p.1)[j]? = some (.int x) := by rw [List.getElem?_map, hx]; rfl
      have hg : (unI (.tup (iL p.1))).getD j 0 = x := by
        rw [show unI (.tup (iL p.1)) = p.1 from unI_vec p.1, List.getD_eq_getElem?_getD, hx]
        rfl
      refine ⟨gd_pair, _, t_test (e_op (e_op (ev_var rfl) (ev_var rfl) (opd_ix (d := .int x) rfl (atI_nat hx2))) (ev_var rfl) opd_gt), fun e => ?_, fun e => (ev_var (d := .int p.2) rfl).imp fun _ z => ?_⟩
      · show (if p.2 < (unI (.tup (iL p.1))).getD j 0 then some (Dt.int p.2) else none) = none
        rw [hg, if_neg (of_decide_eq_false e)]
      · show (if p.2 < (unI (.tup (iL p.1))).getD j 0 then some (Dt.int p.2) else none) = _
        rw [hg, if_pos (of_decide_eq_true e), z]
    · rw [hz, List.filterMap_map]
      show Dt.lst _ = Dt.lst (iL (holds t wv j))
      congr 1
      unfold holds
      rw [show iL ((List.zip t wv).filterMap fun p => if p.2 < p.1.getD j 0 then some p.2 else none) = List.map Dt.int ((List.zip t wv).filterMap fun p => if p.2 < p.1.getD j 0 then some p.2 else none) from rfl, List.map_filterMap]
      refine fm_congr _ fun p => ?_
      show (if p.2 < (unI (.tup (iL p.1))).getD j 0 then some (Dt.int p.2) else none) = _
      rw [show unI (.tup (iL p.1)) = p.1 from unI_vec p.1]
      split <;> rfl
    · subst e1 e2
      refine ⟨_, _, rfl, rfl, fun z => ?_, fun z m m1 m2 => ?_⟩
      · have e : upLev t wv j = TOPI := by
          unfold upLev
          rw [z]
          rfl
        rw [← e]
        exact hp
      · rw [show m = upLev t wv j from mnD_of m1 m2]
        exact hp
theorem ok_upper_setting {a0 : Addr} {fd0 : FuncData} (F0 : Fun K "upper_setting" "upper_setting" s_upper_setting a0 fd0) (C_are_wants : Cal P w K mg base 4 "are_wants" ["table", "value"] (sp_are_wants K)) (C_upper_level : Cal P w K mg base 1 "upper_level" ["table", "wants", "inlet"] (sp_upper_level K)) (z_tuple : mg "tuple" = none) (z_range : mg "range" = none) (z_len : mg "len" = none) : FnOk P w K mg base CX0 5 a0 fd0 ["table", "wants"] (sp_upper_setting K) := by
  refine fn_mk F0 sc_upper_setting (fun ds c p h => ?_) (fun cdv A outer s H E hr => ⟨_, (pss_cons (by exact ps_if (by exact pt_not (by exact pt_val (by exact pe_cal C_are_wants (hr.mono (by decide)) (by rfl) (by exact pa_cons (pv 0) (by exact pa_cons (pv 1) pa_nil))))) (by exact pss_one ps_never) pss_nil) (by exact pss_one (by exact ps_ret (by exact pe_callTy (tupleK K) (by rfl) z_tuple boot_tuple (by exact pa_cons (by exact pe_lc (own := [("inlet", 2)]) (g := gName 2) (by rfl) sc_upper_setting.nd (by exact pi_range1 (by rfl) z_range (by exact pa_cons (by exact pe_callB (lenK K) (by rfl) z_len PySem.boot_len (by exact pa_cons (by exact pe_ix (ixs K) (pv 0) pe_int (fun _ _ => rfl)) pa_nil)) pa_nil)) (blkOk_by (own := [("inlet", 2)]) (N := ["table", "wants", "inlet"]) (sc := defScope s_upper_setting) (by decide +kernel)) (fun _ _ _ _ _ => (by exact pg_name (i := 2) sc_upper_setting.nd rfl (.inl rfl))) (fun _ _ _ _ _ => pts_nil) (fun _ _ _ _ _ => (by exact pe_cal C_upper_level (hr.mono (by decide)) (by rfl) (by exact pa_cons (pv 0) (by exact pa_cons (pv 1) (by exact pa_cons (pv 2) pa_nil)))))) pa_nil))))), fun ds I c R hI hS => ?_⟩)
  · obtain ⟨n, t, wv, rfl, _⟩ := h
    rfl
  · obtain ⟨n, t, wv, rfl, ht, hw, hp⟩ := hS
    have hne := ht.ne
    obtain ⟨r0, tr, rfl⟩ : ∃ r0 tr, t = r0 :: tr := by
      cases t with
      | nil => exact absurd rfl hne
      | cons a b => exact ⟨a, b, rfl⟩
    have h0 : r0.length = n := ht.row r0 List.mem_cons_self
    have hs : areLevD (vec wv) ((r0 :: tr).length : Nat) = true := areLev_vec.mpr hw
    have h6 := ht.n6
    refine Sv.le (v_ifs (t_not (t_B (e_call (c2 := 0) (a_cons (ev_var rfl) (a_cons (ev_var rfl) a_nil)) trivial ⟨n, r0 :: tr, vec wv, rfl, ht, val_vec wv, rfl⟩))) (fun e => v_no (c := 0) ?_) fun _ => sv_nextS (sv_ret (e_cb (ds := [.lst (iL (upper (r0 :: tr) wv n))]) (a_cons ((e_map (ce := 0) (n := 6) (js := [2]) (fun d Δ => Δ.set 2 (some d)) (fun d => match d with | .int i => .int (upLev (r0 :: tr) wv i.toNat) | _ => .non) (i_rng (n := ((iL r0).length : Int)) (a_cons (e_cb (a_cons (e_op (ev_var rfl) ev_int (opd_ix (d := vec r0) rfl (atI_nat (j := 0) rfl))) a_nil) (cd_len rfl)) a_nil) ?_ ?_) ?_ (by decide) (fun j h => h) fun d hd => ?_).to ?_) a_nil) ?_))) (by omega)
    · rw [hs] at e
      cases e
    · rw [List.length_map]
      omega
    · rw [List.length_map]
      omega
    · rw [rngD_len, List.length_map]
      omega
    · unfold rngD at hd
      obtain ⟨k, hk, rfl⟩ := List.mem_map.mp hd
      have hk2 : k < n := by
        have := List.mem_range.mp hk
        rw [List.length_map, h0] at this
        omega
      refine ⟨gd_name, e_call (c2 := 0) (a_cons (ev_var rfl) (a_cons (ev_var rfl) (a_cons (ev_var rfl) a_nil))) trivial ⟨n, r0 :: tr, wv, k, ?_, ht, hw, hk2, ?_⟩⟩
      · rw [Int.zero_add]
      · show Dt.int _ = Dt.int (upLev _ _ (0 + (k : Int)).toNat)
        rw [Int.zero_add, Int.toNat_natCast]
    · rw [List.length_map, h0]
      unfold rngD upper
      rw [List.map_map]
      show Dt.lst _ = Dt.lst (List.map Dt.int (List.map _ _))
      rw [List.map_map, Int.toNat_natCast]
      congr 1
      refine List.map_congr_left fun k _ => ?_
      show Dt.int (upLev _ _ (0 + (k : Int)).toNat) = Dt.int (upLev _ _ k)
      rw [Int.zero_add, Int.toNat_natCast]
    · intro vs G F R2 H s hd Q q
      refine cd_tuple rfl vs G F R2 H s hd Q fun z d G2 H2 e1 e2 e3 e4 => q z d G2 H2 e1 e2 e3 ?_
      rw [e4]
      exact hp
theorem ok_is_solution {a0 : Addr} {fd0 : FuncData} (F0 : Fun K "is_solution" "is_solution" s_is_solution a0 fd0) (C_are_wants : Cal P w K mg base 4 "are_wants" ["table", "value"] (sp_are_wants K)) (C_is_setting : Cal P w K mg base 4 "is_setting" ["table", "value"] (sp_is_setting K)) (C_levels_of : Cal P w K mg base 5 "levels_of" ["table", "setting"] (sp_levels_of K)) : FnOk P w K mg base CX0 6 a0 fd0 ["table", "wants", "value"] (sp_is_solution K) := by
  refine fn_mk F0 sc_is_solution (fun ds c p h => ?_) (fun cdv A outer s H E hr => ⟨_, (pss_one (by exact ps_ret (by exact pe_and (by exact pe_cal C_are_wants (hr.mono (by decide)) (by rfl) (by exact pa_cons (pv 0) (by exact pa_cons (pv 1) pa_nil))) (by exact pe_and (by exact pe_cal C_is_setting (hr.mono (by decide)) (by rfl) (by exact pa_cons (pv 0) (by exact pa_cons (pv 2) pa_nil))) (by exact pe_one (by exact pe_cmpR (eqK K hr.units) (by exact pe_cal C_levels_of (hr.mono (by decide)) (by rfl) (by exact pa_cons (pv 0) (by exact pa_cons (pv 2) pa_nil))) (pv 1) (nomark _))))))), fun ds I c R hI hS => ?_⟩)
  · obtain ⟨n, t, wv, d, rfl, _⟩ := h
    rfl
  · obtain ⟨n, t, wv, d, rfl, ht, hw, hv, hp⟩ := hS
    have hs : areLevD (vec wv) (t.length : Nat) = true := areLev_vec.mpr hw
    cases hi : areLevD d n with
    | false =>
      refine Sv.le (sv_ret ((e_and (c2 := 0) (b2 := false) (e_call (c2 := 0) (a_cons (ev_var rfl) (a_cons (ev_var rfl) a_nil)) trivial ⟨n, t, vec wv, rfl, ht, val_vec wv, rfl⟩) fun _ => (e_and (c2 := 0) (b := areLevD d n) (b2 := false) (e_call (c2 := 0) (a_cons (ev_var rfl) (a_cons (ev_var rfl) a_nil)) trivial ⟨n, t, d, rfl, ht, hv, rfl⟩) fun e => ?_).to ?_).imp fun _ e => ?_)) (by omega)
      · rw [hi] at e
        cases e
      · rw [hi]
        rfl
      · have z : solD n t wv d = false := by
          unfold solD
          rw [hi]
          rfl
        rw [e, Bool.and_false]
        rw [z] at hp
        exact hp
    | true =>
      obtain ⟨v, rfl, hvv⟩ := areLev_inv hi
      refine Sv.le (sv_ret ((e_and (e_call (c2 := 0) (a_cons (ev_var rfl) (a_cons (ev_var rfl) a_nil)) trivial ⟨n, t, vec wv, rfl, ht, val_vec wv, rfl⟩) fun _ => e_and (e_call (c2 := 0) (a_cons (ev_var rfl) (a_cons (ev_var rfl) a_nil)) trivial ⟨n, t, vec v, rfl, ht, hv, rfl⟩) fun _ => e_op (e_call (c2 := 0) (a_cons (ev_var rfl) (a_cons (ev_var rfl) a_nil)) trivial ⟨n, t, v, rfl, ht, hvv, rfl⟩) (ev_var rfl) opd_eqTI).imp fun _ e => ?_)) (by omega)
      have z : solD n t wv (vec v) = decide (levs t v = wv) := by
        unfold solD
        rw [hi, unI_vec, Bool.true_and]
      rw [e, hs, hi, Bool.true_and, Bool.true_and, ← z]
      exact hp
theorem ok_is_reason {a0 : Addr} {fd0 : FuncData} (F0 : Fun K "is_reason" "is_reason" s_is_reason a0 fd0) (C_is_number_below : Cal P w K mg base 2 "is_number_below" ["value", "many"] (sp_is_number_below K)) (z_len : mg "len" = none) : FnOk P w K mg base CX0 3 a0 fd0 ["table", "wants", "outlet", "inlet", "reason"] (sp_is_reason K) := by
  refine fn_mk F0 sc_is_reason (fun ds c p h => ?_) (fun cdv A outer s H E hr => ⟨_, (pss_cons (by exact ps_if (by exact pt_cmpR op_lt (by exact pe_ix (ixs K) (by exact pe_ix (ixs K) (pv 0) (pv 2) (fun _ _ => rfl)) (pv 3) (fun _ _ => rfl)) (by exact pe_ix (ixs K) (pv 1) (pv 2) (fun _ _ => rfl)) (nomark _)) (by exact pss_one (by exact ps_ret (by exact pe_cmpR op_isN (pv 4) pe_non (nomark _)))) pss_nil) (by exact pss_cons (by exact ps_if (by exact pt_not (by exact pt_val (by exact pe_cal C_is_number_below (hr.mono (by decide)) (by rfl) (by exact pa_cons (pv 4) (by exact pa_cons (by exact pe_callB (lenK K) (by rfl) z_len PySem.boot_len (by exact pa_cons (pv 0) pa_nil)) pa_nil))))) (by exact pss_one (by exact ps_ret pe_bl)) pss_nil) (by exact pss_one (by exact ps_ret (by exact pe_and (by exact pe_cmpR op_lt (by exact pe_ix (ixs K) (pv 1) (pv 4) (fun _ _ => rfl)) (by exact pe_ix (ixs K) (by exact pe_ix (ixs K) (pv 0) (pv 4) (fun _ _ => rfl)) (pv 3) (fun _ _ => rfl)) (nomark _)) (by exact pe_one (by exact pe_cmpR op_lt (by exact pe_ix (ixs K) (pv 1) (pv 4) (fun _ _ => rfl)) (by exact pe_ix (ixs K) (pv 1) (pv 2) (fun _ _ => rfl)) (nomark _)))))))), fun ds I c R hI hS => ?_⟩)
  · obtain ⟨n, t, wv, o, j, d, rfl, _⟩ := h
    rfl
  · obtain ⟨n, t, wv, o, j, d, rfl, ht, hw, ho, hj, hv, hp⟩ := hS
    have hrow : ∀ k, k < t.length → j < (t.getD k []).length := fun k hk => by rw [ht.row _ (row_mem hk)]; exact hj
    have how : o < wv.length := by rw [hw.len]; exact ho
    refine Sv.le (v_ifs (c2 := 0) (c3 := 0) (t_test (e_op (e_op (e_op (ev_var rfl) (ev_var rfl) (opd_ix rfl (atI_nat (tb_at ho)))) (ev_var rfl) (opd_ix rfl (atI_nat (getD_at0 (hrow o ho))))) (e_op (ev_var rfl) (ev_var rfl) (opd_ix rfl (atI_nat (getD_at0 how)))) opd_lt)) (fun e => ?_) fun e => ?_) (by omega)
    · have h1 := of_decide_eq_true e
      refine Sv.le (sv_retS ((e_op (ev_var rfl) ev_non (opd_isN rfl fun v z => by subst z; cases hv)).imp fun _ e2 => ?_)) (by omega)
      rw [e2]
      unfold rsn at hp
      rw [if_pos h1] at hp
      exact hp
    · have h1 := of_decide_eq_false e
      unfold rsn at hp
      rw [if_neg h1] at hp
      refine Sv.le (sv_nextS (v_ifs (c2 := 0) (c3 := 0) (t_not (t_B (e_call (c2 := 0) (a_cons (ev_var rfl) (a_cons (e_cb (a_cons (ev_var rfl) a_nil) (cd_len rfl)) a_nil)) trivial ⟨d, _, rfl, hv, rfl⟩))) (fun e2 => ?_) fun e2 => ?_)) (by omega)
      · rw [List.length_map, Bool.not_eq_true'] at e2
        refine Sv.le (sv_retS (ev_bl.imp fun _ e3 => ?_)) (by omega)
        rw [e2] at hp
        rw [e3]
        exact hp
      · rw [List.length_map, Bool.not_eq_false'] at e2
        rw [e2, Bool.true_and] at hp
        cases d with
        | int k =>
          have h3 : (decide (0 ≤ k) && decide (k < (t.length : Int))) = true := e2
          rw [Bool.and_eq_true, decide_eq_true_eq, decide_eq_true_eq] at h3
          obtain ⟨kn, rfl⟩ : ∃ kn : Nat, k = (kn : Int) := ⟨k.toNat, by omega⟩
          have hk : kn < t.length := by omega
          have hkw : kn < wv.length := by rw [hw.len]; exact hk
          refine Sv.le (sv_nextS (sv_ret ((e_and (e_op (e_op (ev_var rfl) (ev_var rfl) (opd_ix rfl (atI_nat (getD_at0 hkw)))) (e_op (e_op (ev_var rfl) (ev_var rfl) (opd_ix rfl (atI_nat (tb_at hk)))) (ev_var rfl) (opd_ix rfl (atI_nat (getD_at0 (hrow kn hk))))) opd_lt) fun _ => e_op (e_op (ev_var rfl) (ev_var rfl) (opd_ix rfl (atI_nat (getD_at0 hkw)))) (e_op (ev_var rfl) (ev_var rfl) (opd_ix rfl (atI_nat (getD_at0 how)))) opd_lt).imp fun _ e3 => ?_))) (by omega)
          have z : rsn2 t wv o j (.int (kn : Nat)) = (decide (wv.getD kn 0 < (t.getD kn []).getD j 0) && decide (wv.getD kn 0 < wv.getD o 0)) := by
            show (decide (wv.getD (kn : Int).toNat 0 < (t.getD (kn : Int).toNat []).getD j 0) && decide (wv.getD (kn : Int).toNat 0 < wv.getD o 0)) = _
            rw [Int.toNat_natCast]
          rw [z] at hp
          rw [e3]
          exact hp
        | _ => cases e2
theorem ok_are_reasons {a0 : Addr} {fd0 : FuncData} (F0 : Fun K "are_reasons" "are_reasons" s_are_reasons a0 fd0) (C_is_tuple_of : Cal P w K mg base 1 "is_tuple_of" ["value", "many"] (sp_is_tuple_of K)) (C_is_reason : Cal P w K mg base 3 "is_reason" ["table", "wants", "outlet", "inlet", "reason"] (sp_is_reason K)) (z_all : mg "all" = none) (z_len : mg "len" = none) (z_enumerate : mg "enumerate" = none) : FnOk P w K mg base CX0 4 a0 fd0 ["table", "wants", "outlet", "reasons"] (sp_are_reasons K) := by
  refine fn_mk F0 sc_are_reasons (fun ds c p h => ?_) (fun cdv A outer s H E hr => ⟨_, (pss_cons (by exact ps_if (by exact pt_not (by exact pt_val (by exact pe_cal C_is_tuple_of (hr.mono (by decide)) (by rfl) (by exact pa_cons (pv 3) (by exact pa_cons (by exact pe_callB (lenK K) (by rfl) z_len PySem.boot_len (by exact pa_cons (by exact pe_ix (ixs K) (pv 0) pe_int (fun _ _ => rfl)) pa_nil)) pa_nil))))) (by exact pss_one (by exact ps_ret pe_bl)) pss_nil) (by exact pss_one (by exact ps_ret (by exact pe_callB (allK K) (by rfl) z_all boot_all (by exact pa_cons (by exact pe_lc (own := [("inlet", 4), ("reason", 5)]) (g := gTup K 2 (gCons (gName 4) (gCons (gName 5) (gNil)))) (by rfl) sc_are_reasons.nd (by exact piE K (by rfl) z_enumerate (by exact pa_cons (pv 3) pa_nil)) (blkOk_by (own := [("inlet", 4), ("reason", 5)]) (N := ["table", "wants", "outlet", "reasons", "inlet", "reason"]) (sc := defScope s_are_reasons) (by decide +kernel)) (fun _ _ _ _ _ => (by exact pg_tup (by rfl) (by exact pgs_cons (by exact pg_name (i := 4) sc_are_reasons.nd rfl (.inl rfl)) (by exact pgs_cons (by exact pg_name (i := 5) sc_are_reasons.nd rfl (.inl rfl)) pgs_nil)))) (fun _ _ _ _ _ => pts_nil) (fun _ _ _ _ _ => (by exact pe_cal C_is_reason (hr.mono (by decide)) (by rfl) (by exact pa_cons (pv 0) (by exact pa_cons (pv 1) (by exact pa_cons (pv 2) (by exact pa_cons (pv 4) (by exact pa_cons (pv 5) pa_nil)))))))) pa_nil))))), fun ds I c R hI hS => ?_⟩)
  · obtain ⟨n, t, wv, o, d, rfl, _⟩ := h
    rfl
  · obtain ⟨n, t, wv, o, d, rfl, ht, hw, ho, hv, hp⟩ := hS
    have hne := ht.ne
    obtain ⟨r0, tr, rfl⟩ : ∃ r0 tr, t = r0 :: tr := by
      cases t with
      | nil => exact absurd rfl hne
      | cons a b => exact ⟨a, b, rfl⟩
    have h0 : r0.length = n := ht.row r0 List.mem_cons_self
    have n6 := ht.n6
    refine Sv.le (v_ifs (c2 := 0) (c3 := 0) (t_not (t_B (e_call (c2 := 0) (a_cons (ev_var rfl) (a_cons (e_cb (a_cons (e_op (ev_var rfl) ev_int (opd_ix (d := vec r0) rfl (atI_nat (j := 0) rfl))) a_nil) (cd_len rfl)) a_nil)) trivial ⟨d, _, rfl, hv, rfl⟩))) (fun e => ?_) fun e => ?_) (by omega)
    · rw [List.length_map, h0, Bool.not_eq_true'] at e
      refine Sv.le (sv_retS (ev_bl.imp fun _ e3 => ?_)) (by omega)
      have z : rsnsD n (r0 :: tr) wv o d = false := by
        cases d with
        | tup xs =>
          show (isTupN (.tup xs) n && _) = false
          rw [e]
          rfl
        | _ => rfl
      rw [z] at hp
      rw [e3]
      exact hp
    · rw [List.length_map, h0, Bool.not_eq_false'] at e
      cases d with
      | tup xs =>
        have hl : (xs.length : Int) = n := of_decide_eq_true e
        refine Sv.le (sv_nextS (sv_ret ((e_cb (ds := [.lst (((enumD xs).map (rsnI (r0 :: tr) wv o)).map Dt.bl)]) (a_cons ((e_map (ce := 0) (n := 6) (js := [4, 5]) (fun d Δ => match d with | .tup [x, y] => (Δ.set 4 (some x)).set 5 (some y) | _ => Δ) (fun d => .bl (rsnI (r0 :: tr) wv o d)) (i_enT (a_cons (ev_var rfl) a_nil)) (by rw [enumD_len]; omega) (by decide) (fun j h => h) fun d hd => ?_).to (by rw [List.map_map]; rfl)) a_nil) cd_all).imp fun _ e3 => ?_))) (by omega)
        · obtain ⟨j, hj, e4⟩ := List.getElem_of_mem hd
          obtain ⟨x, hx, e5⟩ := enumD_get (List.getElem?_eq_getElem hj)
          rw [enumD_len] at hj
          rw [← e4, e5]
          refine ⟨gd_pair, e_call (c2 := 0) (a_cons (ev_var rfl) (a_cons (ev_var rfl) (a_cons (ev_var rfl) (a_cons (ev_var rfl) (a_cons (ev_var rfl) a_nil))))) trivial ⟨n, r0 :: tr, wv, o, j, x, rfl, ht, hw, ho, by omega, valD_tup hv x (List.mem_of_getElem? hx), ?_⟩⟩
          show Dt.bl _ = Dt.bl (rsn _ _ _ (j : Int).toNat x)
          rw [Int.toNat_natCast]
        · have z : rsnsD n (r0 :: tr) wv o (.tup xs) = ((enumD xs).map (rsnI (r0 :: tr) wv o)).all id := by
            show (decide ((xs.length : Int) = (n : Int)) && _) = _
            rw [decide_eq_true hl, Bool.true_and]
          rw [z] at hp
          rw [e3]
          exact hp
      | _ => cases e
theorem ok_is_evidence {a0 : Addr} {fd0 : FuncData} (F0 : Fun K "is_evidence" "is_evidence" s_is_evidence a0 fd0) (C_is_number_below : Cal P w K mg base 2 "is_number_below" ["value", "many"] (sp_is_number_below K)) (C_are_reasons : Cal P w K mg base 4 "are_reasons" ["table", "wants", "outlet", "reasons"] (sp_are_reasons K)) (C_are_wants : Cal P w K mg base 4 "are_wants" ["table", "value"] (sp_are_wants K)) (C_is_tuple_of : Cal P w K mg base 1 "is_tuple_of" ["value", "many"] (sp_is_tuple_of K)) (z_len : mg "len" = none) : FnOk P w K mg base CX0 5 a0 fd0 ["table", "wants", "value"] (sp_is_evidence K) := by
  refine fn_mk F0 sc_is_evidence (fun ds c p h => ?_) (fun cdv A outer s H E hr => ⟨_, (pss_cons (by exact ps_if (by exact PW.pt (by exact pw_or (by exact pt_not (by exact pt_val (by exact pe_cal C_are_wants (hr.mono (by decide)) (by rfl) (by exact pa_cons (pv 0) (by exact pa_cons (pv 1) pa_nil))))) (by exact pw_or1 (by exact pt_not (by exact pt_val (by exact pe_cal C_is_tuple_of (hr.mono (by decide)) (by rfl) (by exact pa_cons (pv 2) (by exact pa_cons pe_int pa_nil)))))))) (by exact pss_one (by exact ps_ret pe_bl)) pss_nil) (by exact pss_cons (by exact ps_asg (pv 2) (by exact pg_tup (by rfl) (by exact pgs_cons (by exact pg_name (i := 3) sc_is_evidence.nd rfl (.inl rfl)) (by exact pgs_cons (by exact pg_name (i := 4) sc_is_evidence.nd rfl (.inl rfl)) pgs_nil)))) (by exact pss_one (by exact ps_ret (by exact pe_and (by exact pe_cal C_is_number_below (hr.mono (by decide)) (by rfl) (by exact pa_cons (pv 3) (by exact pa_cons (by exact pe_callB (lenK K) (by rfl) z_len PySem.boot_len (by exact pa_cons (pv 0) pa_nil)) pa_nil))) (by exact pe_one (by exact pe_cal C_are_reasons (hr.mono (by decide)) (by rfl) (by exact pa_cons (pv 0) (by exact pa_cons (pv 1) (by exact pa_cons (pv 3) (by exact pa_cons (pv 4) pa_nil))))))))))), fun ds I c R hI hS => ?_⟩)
  · obtain ⟨n, t, wv, d, rfl, _⟩ := h
    rfl
  · obtain ⟨n, t, wv, d, rfl, ht, hw, hv, hp⟩ := hS
    have hs : areLevD (vec wv) (t.length : Nat) = true := areLev_vec.mpr hw
    refine Sv.le (v_ifs (c2 := 0) (c3 := 0) (t_or (t_not (t_B (e_call (c2 := 0) (a_cons (ev_var rfl) (a_cons (ev_var rfl) a_nil)) trivial ⟨n, t, vec wv, rfl, ht, val_vec wv, rfl⟩))) fun _ => t_not (t_B (e_call (c2 := 0) (a_cons (ev_var rfl) (a_cons ev_int a_nil)) trivial ⟨d, 2, rfl, hv, rfl⟩))) (fun e => ?_) fun e => ?_) (by omega)
    · rw [hs, Bool.not_true, Bool.false_or, Bool.not_eq_true'] at e
      refine Sv.le (sv_retS (ev_bl.imp fun _ e3 => ?_)) (by omega)
      have z : evD n t wv d = false := by
        cases d with
        | tup xs =>
          match xs, e with
          | [], _ => rfl
          | [_], _ => rfl
          | [_, _], e => cases e
          | _ :: _ :: _ :: _, _ => rfl
        | _ => rfl
      rw [z] at hp
      rw [e3]
      exact hp
    · rw [hs, Bool.not_true, Bool.false_or, Bool.not_eq_false'] at e
      obtain ⟨x, y, rfl⟩ : ∃ x y, d = .tup [x, y] := by
        cases d with
        | tup xs =>
          match xs, e with
          | [], e => cases e
          | [_], e => cases e
          | [x, y], _ => exact ⟨x, y, rfl⟩
          | a :: b :: c :: l, e =>
            have z : ((a :: b :: c :: l).length : Int) = 2 := of_decide_eq_true e
            simp at z
            omega
        | _ => cases e
      have vx := valD_tup hv x List.mem_cons_self
      have vy := valD_tup hv y (List.mem_cons_of_mem _ List.mem_cons_self)
      refine Sv.le (sv_nextS (sv_seq (c2 := 0) (sv_asgP (N := (· = [some (tbl t), some (vec wv), some (.tup [x, y]), some x, some y])) (ev_var rfl) fun d hd => ⟨x, y, hd, rfl⟩) fun Δ' h => ?_)) (by omega)
      subst h
      cases hi : isNumD x t.length with
      | false =>
        refine Sv.le (sv_ret ((e_and (c2 := 0) (b := isNumD x t.length) (b2 := false) ((e_call (c2 := 0) (a_cons (ev_var rfl) (a_cons (e_cb (a_cons (ev_var rfl) a_nil) (cd_len rfl)) a_nil)) trivial ⟨x, _, rfl, vx, rfl⟩).to (by rw [List.length_map])) fun e => ?_).imp fun _ e => ?_)) (by omega)
        · rw [hi] at e
          cases e
        · have z : evD n t wv (.tup [x, y]) = false := by
            show (isNumD x t.length && _) = false
            rw [hi]
            rfl
          rw [z] at hp
          rw [e, hi]
          exact hp
      | true =>
        cases x with
        | int k =>
          have h3 : (decide (0 ≤ k) && decide (k < (t.length : Int))) = true := hi
          rw [Bool.and_eq_true, decide_eq_true_eq, decide_eq_true_eq] at h3
          obtain ⟨kn, rfl⟩ : ∃ kn : Nat, k = (kn : Int) := ⟨k.toNat, by omega⟩
          refine Sv.le (sv_ret ((e_and ((e_call (c2 := 0) (a_cons (ev_var rfl) (a_cons (e_cb (a_cons (ev_var rfl) a_nil) (cd_len rfl)) a_nil)) trivial ⟨.int (kn : Nat), _, rfl, vx, rfl⟩).to (y := .bl (isNumD (.int (kn : Nat)) t.length)) (by rw [List.length_map])) fun _ => e_call (c2 := 0) (a_cons (ev_var rfl) (a_cons (ev_var rfl) (a_cons (ev_var rfl) (a_cons (ev_var rfl) a_nil)))) trivial ⟨n, t, wv, kn, y, rfl, ht, hw, by omega, vy, rfl⟩).imp fun _ e => ?_)) (by omega)
          rw [e]
          have z : evD n t wv (.tup [.int (kn : Nat), y]) = (isNumD (.int (kn : Nat)) t.length && rsnsD n t wv kn y) := rfl
          rw [z] at hp
          exact hp
        | _ => cases hi
theorem ok_reason_of {a0 : Addr} {fd0 : FuncData} (F0 : Fun K "reason_of" "reason_of" s_reason_of a0 fd0) (C_is_reason : Cal P w K mg base 3 "is_reason" ["table", "wants", "outlet", "inlet", "reason"] (sp_is_reason K)) (z_range : mg "range" = none) (z_len : mg "len" = none) : FnOk P w K mg base CX0 4 a0 fd0 ["table", "wants", "outlet", "inlet"] (sp_reason_of K) := by
  refine fn_mk F0 sc_reason_of (fun ds c p h => ?_) (fun cdv A outer s H E hr => ⟨_, (pss_cons (by exact ps_if (by exact pt_cmpR op_lt (by exact pe_ix (ixs K) (by exact pe_ix (ixs K) (pv 0) (pv 2) (fun _ _ => rfl)) (pv 3) (fun _ _ => rfl)) (by exact pe_ix (ixs K) (pv 1) (pv 2) (fun _ _ => rfl)) (nomark _)) (by exact pss_one (by exact ps_ret pe_non)) pss_nil) (by exact pss_one (by exact ps_ret (by exact pe_ix (ixs K) (by exact pe_lc (own := [("number", 4)]) (g := gName 4) (by rfl) sc_reason_of.nd (by exact pi_range1 (by rfl) z_range (by exact pa_cons (by exact pe_callB (lenK K) (by rfl) z_len PySem.boot_len (by exact pa_cons (pv 0) pa_nil)) pa_nil)) (blkOk_by (own := [("number", 4)]) (N := ["table", "wants", "outlet", "inlet", "number"]) (sc := defScope s_reason_of) (by decide +kernel)) (fun _ _ _ _ _ => (by exact pg_name (i := 4) sc_reason_of.nd rfl (.inl rfl))) (fun _ _ _ _ _ => (by exact pts_one (by exact pt_val (by exact pe_cal C_is_reason (hr.mono (by decide)) (by rfl) (by exact pa_cons (pv 0) (by exact pa_cons (pv 1) (by exact pa_cons (pv 2) (by exact pa_cons (pv 3) (by exact pa_cons (pv 4) pa_nil))))))))) (fun _ _ _ _ _ => (pv 4))) pe_int (fun _ _ => rfl))))), fun ds I c R hI hS => ?_⟩)
  · obtain ⟨n, t, wv, o, j, rfl, _⟩ := h
    rfl
  · obtain ⟨n, t, wv, o, j, rfl, ht, hw, ho, hj, hex, hp⟩ := hS
    have hrow : ∀ k, k < t.length → j < (t.getD k []).length := fun k hk => by rw [ht.row _ (row_mem hk)]; exact hj
    have how : o < wv.length := by rw [hw.len]; exact ho
    have h6 := ht.le
    refine Sv.le (v_ifs (c2 := 0) (c3 := 0) (t_test (e_op (e_op (e_op (ev_var rfl) (ev_var rfl) (opd_ix rfl (atI_nat (tb_at ho)))) (ev_var rfl) (opd_ix rfl (atI_nat (getD_at0 (hrow o ho))))) (e_op (ev_var rfl) (ev_var rfl) (opd_ix rfl (atI_nat (getD_at0 how)))) opd_lt)) (fun e => ?_) fun e => ?_) (by omega)
    · have h1 := of_decide_eq_true e
      refine Sv.le (sv_retS (ev_non.imp fun _ e2 => ?_)) (by omega)
      rw [e2]
      refine hp .non rfl ?_
      unfold rsn
      rw [if_pos h1]
      rfl
    · have h1 := of_decide_eq_false e
      obtain ⟨k0, hk0, hr0⟩ := hex
      have hr1 := hr0 (by omega)
      refine Sv.le (sv_nextS (sv_ret (ev_op (P1 := (· = .lst ((rngD 0 t.length).filterMap fun d => if rsn t wv o j d = true then some d else none))) (P2 := (· = .int 0)) ((e_lc (ct := 0) (ce := 0) (n := 6) (js := [4]) (i_rng (n := ((t.map fun r => vec r).length : Int)) (a_cons (e_cb (a_cons (ev_var rfl) a_nil) (cd_len rfl)) a_nil) (by omega) (by rw [List.length_map]; omega)) (by rw [rngD_len, List.length_map]; omega) (by decide) (fun j h => h) (fun d Δ => Δ.set 4 (some d)) (fun d => if rsn t wv o j d = true then some d else none) fun d hd => ?_).to ?_) ev_int fun x y e1 e2 => ?_))) (by omega)
      · unfold rngD at hd
        obtain ⟨k, hk, rfl⟩ := List.mem_map.mp hd
        refine ⟨gd_name, _, t_B (e_call (c2 := 0) (a_cons (ev_var rfl) (a_cons (ev_var rfl) (a_cons (ev_var rfl) (a_cons (ev_var rfl) (a_cons (ev_var rfl) a_nil))))) trivial ⟨n, t, wv, o, j, _, rfl, ht, hw, ho, hj, rfl, rfl⟩), fun e2 => ?_, fun e2 => (ev_var (d := .int (0 + (k : Int))) rfl).imp fun _ z => ?_⟩
        · rw [if_neg (by rw [e2]; exact Bool.false_ne_true)]
        · rw [if_pos e2, z]
      · rw [List.length_map, Int.toNat_natCast]
      · subst e1 e2
        have hm : Dt.int (k0 : Nat) ∈ (rngD 0 t.length).filterMap fun d => if rsn t wv o j d = true then some d else none := by
          refine List.mem_filterMap.mpr ⟨.int (k0 : Nat), ?_, if_pos hr1⟩
          unfold rngD
          exact List.mem_map.mpr ⟨k0, List.mem_range.mpr hk0, by rw [Int.zero_add]⟩
        cases hq : ((rngD 0 t.length).filterMap fun d => if rsn t wv o j d = true then some d else none) with
        | nil =>
          rw [hq] at hm
          cases hm
        | cons z zs =>
          have hz : z ∈ (rngD 0 t.length).filterMap fun d => if rsn t wv o j d = true then some d else none := by
            rw [hq]
            exact List.mem_cons_self
          obtain ⟨d, hd, e3⟩ := List.mem_filterMap.mp hz
          refine (opd_ix (d := z) rfl (atI_nat (j := 0) rfl)).imp fun _ e4 => ?_
          rw [e4]
          unfold rngD at hd
          obtain ⟨k, hk, rfl⟩ := List.mem_map.mp hd
          split at e3
          · cases e3
            exact hp _ rfl (by assumption)
          · cases e3
theorem ok_reasons_of {a0 : Addr} {fd0 : FuncData} (F0 : Fun K "reasons_of" "reasons_of" s_reasons_of a0 fd0) (C_reason_of : Cal P w K mg base 4 "reason_of" ["table", "wants", "outlet", "inlet"] (sp_reason_of K)) (z_tuple : mg "tuple" = none) (z_range : mg "range" = none) (z_len : mg "len" = none) : FnOk P w K mg base CX0 5 a0 fd0 ["table", "wants", "outlet"] (sp_reasons_of K) := by
  refine fn_mk F0 sc_reasons_of (fun ds c p h => ?_) (fun cdv A outer s H E hr => ⟨_, (pss_one (by exact ps_ret (by exact pe_callTy (tupleK K) (by rfl) z_tuple boot_tuple (by exact pa_cons (by exact pe_lc (own := [("inlet", 3)]) (g := gName 3) (by rfl) sc_reasons_of.nd (by exact pi_range1 (by rfl) z_range (by exact pa_cons (by exact pe_callB (lenK K) (by rfl) z_len PySem.boot_len (by exact pa_cons (by exact pe_ix (ixs K) (pv 0) pe_int (fun _ _ => rfl)) pa_nil)) pa_nil)) (blkOk_by (own := [("inlet", 3)]) (N := ["table", "wants", "outlet", "inlet"]) (sc := defScope s_reasons_of) (by decide +kernel)) (fun _ _ _ _ _ => (by exact pg_name (i := 3) sc_reasons_of.nd rfl (.inl rfl))) (fun _ _ _ _ _ => pts_nil) (fun _ _ _ _ _ => (by exact pe_cal C_reason_of (hr.mono (by decide)) (by rfl) (by exact pa_cons (pv 0) (by exact pa_cons (pv 1) (by exact pa_cons (pv 2) (by exact pa_cons (pv 3) pa_nil))))))) pa_nil)))), fun ds I c R hI hS => ?_⟩)
  · obtain ⟨n, t, wv, o, rfl, _⟩ := h
    rfl
  · obtain ⟨n, t, wv, o, rfl, ht, hw, ho, hex, hp⟩ := hS
    have hne := ht.ne
    obtain ⟨r0, tr, rfl⟩ : ∃ r0 tr, t = r0 :: tr := by
      cases t with
      | nil => exact absurd rfl hne
      | cons a b => exact ⟨a, b, rfl⟩
    have h0 : r0.length = n := ht.row r0 List.mem_cons_self
    have n6 := ht.n6
    refine Sv.le (sv_ret (ev_cb (Ps := fun ds => ∃ xs : List Dt, ds = [.lst xs] ∧ All2 (fun d x => ∃ j : Nat, d = .int (j : Nat) ∧ isNI x = true ∧ rsn (r0 :: tr) wv o j x = true) (rngD 0 n) xs) (fun m σ G F R H mb e i s Q q => ea_cons (e_drawR (ce := 0) (n := 6) (js := [3]) (fun d Δ => Δ.set 3 (some d)) (fun d x => ∃ j : Nat, d = .int (j : Nat) ∧ isNI x = true ∧ rsn (r0 :: tr) wv o j x = true) (i_rng (n := ((iL r0).length : Int)) (a_cons (e_cb (a_cons (e_op (ev_var rfl) ev_int (opd_ix (d := vec r0) rfl (atI_nat (j := 0) rfl))) a_nil) (cd_len rfl)) a_nil) (by omega) (by rw [List.length_map]; omega)) (by rw [rngD_len, List.length_map]; omega) (by decide) (fun j h => h) fun d hd => ?_) ea_nil m σ G F R H mb e i s Q fun vs ds G' R' H' e' i' s' d' p' => q vs ds G' R' H' e' i' s' d' ?_) fun ds h => ?_)) (by omega)
    · rw [List.length_map, h0, Int.toNat_natCast] at hd
      unfold rngD at hd
      obtain ⟨k, hk, rfl⟩ := List.mem_map.mp hd
      have hk2 := List.mem_range.mp hk
      refine ⟨gd_name, e_call (c2 := 0) (a_cons (ev_var rfl) (a_cons (ev_var rfl) (a_cons (ev_var rfl) (a_cons (ev_var rfl) a_nil)))) trivial ⟨n, r0 :: tr, wv, o, k, by rw [Int.zero_add], ht, hw, ho, hk2, hex k hk2, fun d h1 h2 => ⟨k, by rw [Int.zero_add], h1, h2⟩⟩⟩
    · obtain ⟨_, _, rfl, ⟨xs, rfl, hx⟩, rfl⟩ := p'
      rw [List.length_map, h0, Int.toNat_natCast] at hx
      exact ⟨xs, rfl, hx⟩
    · obtain ⟨xs, rfl, hx⟩ := h
      refine (cd_tuple rfl).imp fun d e => ?_
      rw [e]
      have hl := hx.len
      rw [rngD_len] at hl
      refine hp xs hl.symm (fun x hm => ?_) fun j x hj => ?_
      · obtain ⟨d, _, j, _, h1, _⟩ := hx.mem x hm
        exact h1
      · obtain ⟨d, hd, j2, e1, _, h2⟩ := all2_at hx hj
        have e2 := rngD_get hd
        rw [e1, Int.zero_add] at e2
        have e3 : j2 = j := by
          injection e2 with e2
          omega
        rw [← e3]
        exact h2
theorem ok_find_evidence {a0 : Addr} {fd0 : FuncData} (F0 : Fun K "find_evidence" "find_evidence" s_find_evidence a0 fd0) (C_levels_of : Cal P w K mg base 5 "levels_of" ["table", "setting"] (sp_levels_of K)) (C_upper_setting : Cal P w K mg base 5 "upper_setting" ["table", "wants"] (sp_upper_setting K)) (C_reasons_of : Cal P w K mg base 5 "reasons_of" ["table", "wants", "outlet"] (sp_reasons_of K)) (z_range : mg "range" = none) (z_len : mg "len" = none) : FnOk P w K mg base CX0 6 a0 fd0 ["table", "wants"] (sp_find_evidence K) := by
  refine fn_mk F0 sc_find_evidence (fun ds c p h => ?_) (fun cdv A outer s H E hr => ⟨_, (pss_cons (by exact ps_set (i := 2) sc_find_evidence.nd rfl (.inl rfl) (by exact pe_cal C_levels_of (hr.mono (by decide)) (by rfl) (by exact pa_cons (pv 0) (by exact pa_cons (by exact pe_cal C_upper_setting (hr.mono (by decide)) (by rfl) (by exact pa_cons (pv 0) (by exact pa_cons (pv 1) pa_nil))) pa_nil)))) (by exact pss_cons (by exact ps_for PassesOwn.never rfl (by exact pi_range1 (by rfl) z_range (by exact pa_cons (by exact pe_callB (lenK K) (by rfl) z_len PySem.boot_len (by exact pa_cons (pv 0) pa_nil)) pa_nil)) (by exact pg_name (i := 3) sc_find_evidence.nd rfl (.inl rfl)) (by exact pss_one (by exact ps_if (by exact pt_cmpR op_lt (by exact pe_ix (ixs K) (pv 2) (pv 3) (fun _ _ => rfl)) (by exact pe_ix (ixs K) (pv 1) (pv 3) (fun _ _ => rfl)) (nomark _)) (by exact pss_one (by exact ps_ret (by exact pe_tup (by exact pa_cons (pv 3) (by exact pa_cons (by exact pe_cal C_reasons_of (hr.mono (by decide)) (by rfl) (by exact pa_cons (pv 0) (by exact pa_cons (pv 1) (by exact pa_cons (pv 3) pa_nil)))) pa_nil))))) pss_nil))) (by exact pss_one (by exact ps_ret pe_non)))), fun ds I c R hI hS => ?_⟩)
  · obtain ⟨n, t, wv, rfl, _⟩ := h
    rfl
  · obtain ⟨n, t, wv, rfl, ht, hw, hp0, hp1⟩ := hS
    have h6 := ht.le
    have hU := upper_isV ht hw
    have hLl : (levs t (upper t wv n)).length = t.length := List.length_map _
    refine Sv.le (v_set (c2 := 0) (P := (· = vec (levs t (upper t wv n)))) (e_call (c2 := 0) (a_cons (ev_var rfl) (a_cons (e_call (c2 := 0) (a_cons (ev_var rfl) (a_cons (ev_var rfl) a_nil)) trivial ⟨n, t, wv, rfl, ht, hw, rfl⟩) a_nil)) trivial ⟨n, t, upper t wv n, rfl, ht, hU, rfl⟩) fun d hd => ?_) (by omega)
    subst hd
    refine Sv.le (sv_seq (c2 := 0) (sv_for (n := 6) (cb := 0) (js := [3]) (N := fun _ => ∀ i, i < t.length → wv.getD i 0 ≤ (levs t (upper t wv n)).getD i 0) (i_rng (n := (((t.map fun r => vec r).length : Nat) : Int)) (a_cons (e_cb (a_cons (ev_var rfl) a_nil) (cd_len rfl)) a_nil) (by omega) (by rw [List.length_map]; omega)) (fun its e => ?_) (fun d Δ => Δ.set 3 (some d)) (fun _ k Δ => (∃ y, Δ = [some (tbl t), some (vec wv), some (vec (levs t (upper t wv n))), y]) ∧ ∀ i, i < k → wv.getD i 0 ≤ (levs t (upper t wv n)).getD i 0) (fun _ _ => ⟨⟨none, rfl⟩, fun i hi => by omega⟩) (fun its k d Δ' e hk hΔ => ?_) fun its _ e h => ?_) fun Δ' h => sv_ret (ev_non.imp fun _ e => ?_)) (by omega)
    · subst e
      rw [rngD_len, List.length_map]
      omega
    · subst e
      obtain ⟨⟨y, rfl⟩, hpre⟩ := hΔ
      have e1 := rngD_get hk
      rw [Int.zero_add] at e1
      subst e1
      have hkl : k < t.length := by
        have := (List.getElem?_eq_some_iff.mp hk).1
        rw [rngD_len, List.length_map] at this
        omega
      have hkw : k < wv.length := by rw [hw.len]; exact hkl
      have hkL : k < (levs t (upper t wv n)).length := by rw [hLl]; exact hkl
      refine ⟨gd_name, Sv.le (v_if (c2 := 0) (c3 := 0) (t_test (e_op (e_op (ev_var rfl) (ev_var rfl) (opd_ix rfl (atI_nat (getD_at0 hkL)))) (e_op (ev_var rfl) (ev_var rfl) (opd_ix rfl (atI_nat (getD_at0 hkw)))) opd_lt)) (fun e => ?_) fun e => sv_next.imp (fun _ e2 => ⟨⟨_, e2⟩, fun i hi => ?_⟩) fun _ e => e) (by omega)⟩
      · have h1 := of_decide_eq_true e
        refine Sv.le (sv_ret (ev_tup (Ps := fun ds => ∃ xs, ds = [.int (k : Nat), .tup xs] ∧ isEv n t wv k xs) (fun m σ G F R H mb e i s Q q => ea_cons (ev_var (d := .int (k : Nat)) rfl) (ea_cons (P1 := fun d => ∃ xs, d = .tup xs ∧ isEv n t wv k xs) (e_call (c2 := 0) (a_cons (ev_var rfl) (a_cons (ev_var rfl) (a_cons (ev_var rfl) a_nil))) trivial ⟨n, t, wv, k, rfl, ht, hw, hkl, short_reason ht hw hkl h1, fun xs x1 x2 x3 => ⟨xs, rfl, hkl, x1, x2, x3⟩⟩) ea_nil) m σ G F R H mb e i s Q fun vs ds G' R' H' e' i' s' d' p' => q vs ds G' R' H' e' i' s' d' ?_) fun ds h => ?_)) (by omega)
        · obtain ⟨_, _, rfl, rfl, _, _, rfl, ⟨xs, rfl, hx⟩, rfl⟩ := p'
          exact ⟨xs, rfl, hx⟩
        · obtain ⟨xs, rfl, hx⟩ := h
          exact ⟨by show 2 ≤ sizeLine; decide, hp1 k xs hx⟩
      · have h1 := of_decide_eq_false e
        by_cases hik : i = k
        · subst hik
          omega
        · exact hpre i (by omega)
    · subst e
      rw [rngD_len, List.length_map] at h
      exact fun i hi => h.2 i (by omega)
    · rw [e]
      exact hp0 (upper_eq ht hw h)
theorem ok_certificate {a0 : Addr} {fd0 : FuncData} (F0 : Fun K "certificate" "certificate" s_certificate a0 fd0) (C_find_evidence : Cal P w K mg base 6 "find_evidence" ["table", "wants"] (sp_find_evidence K)) (C_upper_setting : Cal P w K mg base 5 "upper_setting" ["table", "wants"] (sp_upper_setting K)) : FnOk P w K mg base CX0 7 a0 fd0 ["table", "wants"] (sp_certificate K) := by
  refine fn_mk F0 sc_certificate (fun ds c p h => ?_) (fun cdv A outer s H E hr => ⟨_, (pss_cons (by exact ps_set (i := 2) sc_certificate.nd rfl (.inl rfl) (by exact pe_cal C_find_evidence (hr.mono (by decide)) (by rfl) (by exact pa_cons (pv 0) (by exact pa_cons (pv 1) pa_nil)))) (by exact pss_cons (by exact ps_if (by exact pt_cmpR op_isN (pv 2) pe_non (nomark _)) (by exact pss_one (by exact ps_ret (by exact pe_tup (by exact pa_cons pe_str (by exact pa_cons (by exact pe_cal C_upper_setting (hr.mono (by decide)) (by rfl) (by exact pa_cons (pv 0) (by exact pa_cons (pv 1) pa_nil))) pa_nil))))) pss_nil) (by exact pss_one (by exact ps_ret (by exact pe_tup (by exact pa_cons pe_str (by exact pa_cons (pv 2) pa_nil))))))), fun ds I c R hI hS => ?_⟩)
  · obtain ⟨n, t, wv, rfl, _⟩ := h
    rfl
  · obtain ⟨n, t, wv, rfl, ht, hw, hp0, hp1⟩ := hS
    refine Sv.le (v_set (c2 := 0) (P := fun d => (d = .non ∧ levs t (upper t wv n) = wv) ∨ ∃ o xs, d = .tup [.int (o : Nat), .tup xs] ∧ isEv n t wv o xs) (e_call (c2 := 0) (a_cons (ev_var rfl) (a_cons (ev_var rfl) a_nil)) trivial ⟨n, t, wv, rfl, ht, hw, fun h => .inl ⟨rfl, h⟩, fun o xs h => .inr ⟨o, xs, rfl, h⟩⟩) fun d hd => ?_) (by omega)
    rcases hd with ⟨rfl, hs⟩ | ⟨o, xs, rfl, hev⟩
    · refine Sv.le (v_ifs (c2 := 0) (c3 := 0) (t_test (e_op (ev_var rfl) ev_non (opd_isN rfl fun v z => by cases z))) (fun e => Sv.le (sv_retS ((e_tup (a_cons ev_str (a_cons (e_call (c2 := 0) (a_cons (ev_var rfl) (a_cons (ev_var rfl) a_nil)) trivial ⟨n, t, wv, rfl, ht, hw, rfl⟩) a_nil)) (by show 2 ≤ sizeLine; decide)).imp fun _ e2 => ?_)) (by omega)) fun e => v_no (by cases e)) (by omega)
      rw [e2]
      exact hp0 hs
    · refine Sv.le (v_ifs (c2 := 0) (c3 := 0) (t_test (e_op (ev_var rfl) ev_non (opd_isN rfl fun v z => by cases z))) (fun e => v_no (by cases e)) fun e => Sv.le (sv_nextS (sv_ret ((e_tup (a_cons ev_str (a_cons (ev_var rfl) a_nil)) (by show 2 ≤ sizeLine; decide)).imp fun _ e2 => ?_))) (by omega)) (by omega)
      rw [e2]
      exact hp1 o xs hev
end
end KK
set_option Elab.async false
set_option linter.all false
set_option maxRecDepth 100000
set_option maxHeartbeats 4000000
namespace KK
open PySem PySem.Spec PyProof.Rows L2 Fw
open Evl (Ex)
def sp__law_next (K : PySem.W.Frag) : Sp := mk K deckI nextS
def sp__law_deck (K : PySem.W.Frag) : Sp := mk K anyI fun ds _ p => ∃ ns, ds = [.scr ns] ∧ ns.length ≤ 63 ∧ p (deckD ns)
def sp__law_one (K : PySem.W.Frag) : Sp := mk K deckI fun ds c p => ∃ a xs, ds = [.ptr a, .lst xs] ∧ xs ≠ [] ∧ xs.length ≤ 1000 ∧ c = 1 ∧ ∀ x ∈ xs, p x
def sp__law_great (K : PySem.W.Frag) : Sp := mk K deckI fun ds c p => ∃ a, ds = [.ptr a] ∧ c = 1 ∧ ∀ g : Int, 1 ≤ g → g ≤ TOPI → p (.int g)
def sp__law_level (K : PySem.W.Frag) : Sp := mk K deckI fun ds c p => ∃ a g, ds = [.ptr a, .int g] ∧ 1 ≤ g ∧ g ≤ TOPI ∧ c = 3 ∧ ∀ i : Int, 0 ≤ i → i ≤ TOPI → p (.int i)
def sp__law_row (K : PySem.W.Frag) : Sp := mk K deckI fun ds c p => ∃ a g n, ds = [.ptr a, .int g, .int (n : Nat)] ∧ 1 ≤ g ∧ g ≤ TOPI ∧ n ≤ 6 ∧ c = 18 ∧ ∀ v, isV n v → p (vec v)
def sp__law_table (K : PySem.W.Frag) : Sp := mk K deckI fun ds c p => ∃ a g o i, ds = [.ptr a, .int g, .int o, .int i] ∧ 1 ≤ g ∧ g ≤ TOPI ∧ 1 ≤ o ∧ o ≤ 6 ∧ 1 ≤ i ∧ i ≤ 6 ∧ c = 110 ∧ ∀ n t, isT n t → p (tbl t)
def sp__law_levels (K : PySem.W.Frag) : Sp := mk K anyI fun ds _ p => ∃ n t v, ds = [tbl t, vec v] ∧ isT n t ∧ isV n v ∧ p (vec (levs t v))
theorem lev_list {n : Nat} : ∀ {xs : List Dt}, xs.length = n → (∀ x ∈ xs, ∃ i : Int, x = .int i ∧ 0 ≤ i ∧ i ≤ TOPI) → ∃ v, Dt.tup xs = vec v ∧ isV n v := by
  intro xs hl hx
  have key : ∀ ys : List Dt, (∀ x ∈ ys, ∃ i : Int, x = .int i ∧ 0 ≤ i ∧ i ≤ TOPI) → ∃ v : List Int, ys = iL v ∧ ∀ x ∈ v, 0 ≤ x ∧ x ≤ TOPI := fun ys => by
    induction ys with
    | nil => exact fun _ => ⟨[], rfl, fun x h => by cases h⟩
    | cons y ys ih =>
      intro h
      obtain ⟨i, rfl, i0, i1⟩ := h y List.mem_cons_self
      obtain ⟨v, rfl, hv⟩ := ih fun x hx => h x (List.mem_cons_of_mem _ hx)
      refine ⟨i :: v, rfl, fun x hx => ?_⟩
      rcases List.mem_cons.mp hx with e | e
      · subst e
        exact ⟨i0, i1⟩
      · exact hv x e
  obtain ⟨v, rfl, hv⟩ := key xs hx
  exact ⟨v, rfl, by rw [← hl, List.length_map], hv⟩
theorem row_list {n : Nat} : ∀ {xs : List Dt}, (∀ x ∈ xs, ∃ v, x = vec v ∧ isV n v) → ∃ t : List (List Int), xs = t.map (fun r => vec r) ∧ ∀ r ∈ t, isV n r
  | [], _ => ⟨[], rfl, fun x h => by cases h⟩
  | y :: ys, h => by
    obtain ⟨v, rfl, hv⟩ := h y List.mem_cons_self
    obtain ⟨t, rfl, ht⟩ := row_list fun x hx => h x (List.mem_cons_of_mem _ hx)
    refine ⟨v :: t, rfl, fun x hx => ?_⟩
    rcases List.mem_cons.mp hx with e | e
    · subst e
      exact hv
    · exact ht x e
section
variable {P : Program} {w : World} {K : PySem.W.Frag} {mg : Str → Option Value} {base : Heap}
theorem ok__law_next {a0 : Addr} {fd0 : FuncData} (F0 : Fun K "_law_next" "_law_next" s__law_next a0 fd0) (z_len : mg "len" = none) : FnOk P w K mg base CX0 1 a0 fd0 ["_law_deck_here", "_law_many"] (sp__law_next K) := by
  refine F0.ok sc__law_next (fun vs H Q E h => ?_) (fun cdv A outer s H vs Q E hr h => ?_)
  · obtain ⟨ds, I, m, c, G, F, R, P', hd, _, _, _, _, hS, _⟩ := h
    obtain ⟨a, k, rfl, _⟩ := hS
    rw [hd.len]
    rfl
  · obtain ⟨ds, I, m, c, G, F, R, P', hd, hI, mb, hR, sp, hS, q⟩ := h
    obtain ⟨a, k, rfl, k1, k2, rfl, hP⟩ := hS
    obtain ⟨a', r', e1, rfl⟩ := hI
    cases e1
    cases hd with
    | cons hd1 hd2 =>
    cases hd2 with
    | cons hd2 hd3 =>
    cases hd3
    cases hd1
    cases hd2
    have Fnd := sc__law_next.nd
    refine ⟨_, pss_cons (ps_while PassesOwn.never (pt_cmpR (neK K hr.units) (pe_ix ix_list (pv 0) pe_int (fun _ _ => rfl)) (pe_lst pa_nil) (nomark _))
        (pss_cons (ps_set (i := 2) sc__law_next.nd rfl (.inl rfl) (pe_ix ix_list (pe_ix ix_list (pv 0) pe_int (fun _ _ => rfl)) pe_int (fun _ _ => rfl)))
        (pss_cons (ps_if (pt_cmpR op_gt (pv 2) pe_int (nomark _))
            (pss_cons (ps_asg (pe_op op_fdivW (pv 2) (pv 1)) (pg_sub (pe_ix ix_list (pv 0) pe_int (fun _ _ => rfl)) pe_int set_list))
            (pss_one (ps_ret (pe_op op_mod (pv 2) (pv 1))))) pss_nil)
        (pss_one (ps_expr (pe_bm PySem.F.plainAttrs_list PySem.F.slot_list_pop PySem.F.type_list_pop mt_popAt (pe_ix ix_list (pv 0) pe_int (fun _ _ => rfl)) (pa_cons pe_int pa_nil)))))))
      (pss_cons (ps_asg (pe_op op_add (pe_ix ix_list (pv 0) pe_int (fun _ _ => rfl)) pe_int) (pg_sub (pv 0) pe_int set_list))
      (pss_cons (ps_set (i := 3) sc__law_next.nd rfl (.inl rfl) (pe_op op_mod (pe_ix ix_list (pe_ix ix_list (pv 0) pe_int (fun _ _ => rfl)) (pe_op op_mod (pe_ix ix_list (pv 0) pe_int (fun _ _ => rfl)) (pe_callB (lenK K) (by rfl) z_len PySem.boot_len (pa_cons (pe_ix ix_list (pv 0) pe_int (fun _ _ => rfl)) pa_nil))) (fun _ _ => rfl)) pe_int))
      (pss_cons (ps_set (i := 4) sc__law_next.nd rfl (.inl rfl) (pe_op op_add (pe_op op_add (pe_op op_mul (pv 3) (pe_op op_add pe_int (pe_op op_mul pe_int (pe_ix ix_list (pv 0) pe_int (fun _ _ => rfl))))) (pe_op op_mul (pe_op op_mul pe_int (pe_ix ix_list (pv 0) pe_int (fun _ _ => rfl))) (pe_ix ix_list (pv 0) pe_int (fun _ _ => rfl)))) pe_int))
      (pss_cons (ps_set (i := 4) sc__law_next.nd rfl (.inl rfl) (pe_op op_mod (pv 4) pe_int))
      (pss_one (ps_ret (pe_op op_mod (pe_op op_fdiv (pe_op op_mod (pe_op op_mul (pv 4) (pv 4)) pe_int) pe_int) (pv 1)))))))), ?_⟩
    obtain ⟨b0, c0, M0, M1, n0, D0⟩ := hR
    refine ⟨fun x σ H2 => ∃ y R2 b c L0 L1 n, σ = [some (.ref a), some (.int k), y, none, none] ∧ Sp3 G R2 F H2 ∧ DkAt a m R2 b c L0 L1 n ∧ x = L0.length, ⟨_, none, R, b0, c0, M0, M1, n0, rfl, sp, D0, rfl⟩, ?_⟩
    rintro x σ H2 ⟨y, R2, b, c, L0, L1, n, rfl, s2, D, rfl⟩
    have nxt : ∀ (i : Int) R3 H3, 0 ≤ i → i < k → Sp3 G R3 F H3 → (DkI a).p (m + 1) R3 → Q (.int i) H3 := fun i R3 H3 i0 i1 s3 d3 => q _ _ G R3 H3 (Evl.Ex.refl _) d3 s3 (.int i) (hP i i0 i1)
    refine ⟨.ref a, rfl, a, _, 0, .ref b, rfl, rfl, .inl (.inl (s2.r _ _ D.top)), atI_nat (j := 0) rfl, Nat.zero_le _, fun p np => ?_⟩
    have hbp : (upd H2 p (.lst [])) b = some (.lst (L0.map V.int)) := by rw [upd_ne (ne_of_none (s2.r _ _ D.big) np)]; exact s2.r _ _ D.big
    have s3 : Sp3 G R2 F (upd H2 p (.lst [])) := s2.junk np
    refine ⟨_, .list ([].map PyData.int), dp_ints hbp, dp_ints (L := []) upd_same, shapedL L0, shapedL [], !decide (L0 = []), ?_, ?_⟩
    · show V.bl (!PyData.eqvAll _ _) = _
      rw [eqv_ints]
    cases L0 with
    | cons z L0 =>
      refine iteT ?_
      refine ⟨fun σ H' => ∃ y R2 b c L1 n, σ = [some (.ref a), some (.int k), y, none, none] ∧ Sp3 G R2 F H' ∧ DkAt a m R2 b c L0 L1 n, fun σ' H' hN => ?_, ?_⟩
      · obtain ⟨y2, R3, b3, c3, L3, n3, e, t1, t2⟩ := hN
        exact ⟨L0.length, Nat.lt_succ_self _, y2, R3, b3, c3, L0, L3, n3, e, t1, t2, rfl⟩
      refine ⟨.ref a, rfl, a, _, 0, .ref b, rfl, rfl, .inl (.inl (s3.r _ _ D.top)), atI_nat (j := 0) rfl, b, _, 0, .int z, rfl, rfl, .inl (.inl hbp), atI_nat (j := 0) rfl, ?_⟩
      refine ⟨.int z, rfl, z, 0, rfl, rfl, _, rfl, ite2 (fun hz => ?_) (fun hz => ?_)⟩
      · refine ⟨.int z, rfl, .int k, rfl, z, k, rfl, rfl, cdiv_big k1 k2, .ref a, rfl, a, _, 0, .ref b, rfl, rfl, .inl (.inl (s3.r _ _ D.top)), atI_nat (j := 0) rfl, b, _, 0, 0, rfl, rfl, hbp, ixN_0 _ _, ?_⟩
        refine ⟨.int z, rfl, .int k, rfl, z, k, rfl, rfl, by omega, ?_⟩
        refine nxt _ (upd R2 b (.lst ((z :: L0).map V.int |>.set 0 (.int (z / k))))) _ (Int.emod_nonneg _ (by omega)) (Int.emod_lt_of_pos _ (by omega)) (s3.setR D.big) ⟨b, c, (z / k) :: L0, L1, n, ?_⟩
        exact ⟨by rw [upd_ne D.ab]; exact D.top, by rw [upd_same]; rfl, by rw [upd_ne D.bc.symm]; exact D.all, D.bc, D.ne, D.l0, D.l1, D.pos, Nat.le_trans D.le (Nat.le_succ _)⟩
      · refine ⟨.ref a, rfl, a, _, 0, .ref b, rfl, rfl, .inl (.inl (s3.r _ _ D.top)), atI_nat (j := 0) rfl, .inl ⟨rfl, _, .inl (.inl hbp)⟩, b, _, 0, 0, .int z, rfl, rfl, hbp, by decide, by decide, seqIx_0 _ _, rfl, ?_⟩
        refine ⟨some (.int z), upd R2 b (.lst (L0.map V.int)), b, c, L1, n, rfl, s3.setR D.big, ?_⟩
        exact ⟨by rw [upd_ne D.ab]; exact D.top, upd_same, by rw [upd_ne D.bc.symm]; exact D.all, D.bc, D.ne, Nat.le_trans (Nat.le_succ _) D.l0, D.l1, D.pos, D.le⟩
    | nil =>
      refine iteF ?_
      -- deck[2] = deck[2] + 1
      have ha3 := s3.r _ _ D.top
      refine ⟨.ref a, rfl, a, _, 2, .int (n : Nat), rfl, rfl, .inl (.inl ha3), atI_nat (j := 2) rfl, (n : Int), 1, rfl, rfl, .ref a, rfl, a, _, 2, 2, rfl, rfl, ha3, rfl, ?_⟩
      have e4 : ([V.ref b, .ref c, .int (n : Nat)].set 2 (.int ((n : Int) + 1))) = [.ref b, .ref c, .int ((n + 1 : Nat) : Int)] := rfl
      have s4 : Sp3 G (upd R2 a (.lst [.ref b, .ref c, .int ((n + 1 : Nat) : Int)])) F (upd (upd H2 p (.lst [])) a (.lst [.ref b, .ref c, .int ((n + 1 : Nat) : Int)])) := s3.setR D.top
      show _
      generalize hH4 : upd (upd H2 p (.lst [])) a (.lst [V.ref b, .ref c, .int ((n + 1 : Nat) : Int)]) = H4 at s4
      have hH5 : upd (upd H2 p (.lst [])) a (.lst ([V.ref b, .ref c, .int (n : Nat)].set 2 (.int ((n : Int) + 1)))) = H4 := hH4
      rw [hH5]
      have ha4 : H4 a = some (.lst [.ref b, .ref c, .int ((n + 1 : Nat) : Int)]) := s4.r _ _ upd_same
      have hc4 : H4 c = some (.lst (L1.map V.int)) := s4.r _ _ (by rw [upd_ne D.ac.symm]; exact D.all)
      have mb' : m + 1 ≤ 1000000000000 := mb
      have hn : n ≤ 1000000000000 := Nat.le_trans D.le (by omega)
      have hlen : 0 < L1.length := List.length_pos_iff.mpr D.ne
      have hix : (((n + 1 : Nat) : Int) % ((L1.map V.int).length : Int)) = (((n + 1) % L1.length : Nat) : Int) := by rw [List.length_map]; rfl
      have hlt : (n + 1) % L1.length < L1.length := Nat.mod_lt _ hlen
      have hget : (L1.map V.int)[(n + 1) % L1.length]? = some (.int (L1[(n + 1) % L1.length]'hlt)) := by rw [List.getElem?_map, List.getElem?_eq_getElem hlt]; rfl
      generalize hcell : L1[(n + 1) % L1.length]'hlt = cell at hget
      refine ⟨.ref a, rfl, a, _, 1, .ref c, rfl, rfl, .inl (.inl ha4), atI_nat (j := 1) rfl, .ref a, rfl, a, _, 2, _, rfl, rfl, .inl (.inl ha4), atI_nat (j := 2) rfl, .ref a, rfl, a, _, 1, .ref c, rfl, rfl, .inl (.inl ha4), atI_nat (j := 1) rfl, c, _, rfl, .inl (.inl (.inl hc4)), _, _, rfl, rfl, by rw [List.length_map]; omega, c, _, _, .int cell, rfl, rfl, .inl (.inl hc4), by rw [hix]; exact atI_nat hget, cell, 2147483647, rfl, rfl, (by show (0 : Int) < 2147483647; decide), ?_⟩
      dsimp only
      have u1 := Int.emod_nonneg cell (show (2147483647 : Int) ≠ 0 by decide)
      have u2 := Int.emod_lt_of_pos cell (show (0 : Int) < 2147483647 by decide)
      generalize cell % 2147483647 = x3 at u1 u2
      refine ⟨.int x3, rfl, .ref a, rfl, a, _, 2, _, rfl, rfl, .inl (.inl ha4), atI_nat (j := 2) rfl, 39373, _, rfl, rfl, .inl ⟨by decide, by decide⟩, 16807, _, rfl, rfl, x3, _, rfl, rfl, .inl ⟨by omega, by omega⟩, .ref a, rfl, a, _, 2, _, rfl, rfl, .inl (.inl ha4), atI_nat (j := 2) rfl, 40692, _, rfl, rfl, .inl ⟨by decide, by decide⟩, .ref a, rfl, a, _, 2, _, rfl, rfl, .inl (.inl ha4), atI_nat (j := 2) rfl, _, _, rfl, rfl, .inl ⟨by omega, by omega⟩, _, _, rfl, rfl, _, 103, rfl, rfl, ?_⟩
      dsimp only
      generalize x3 * (16807 + 39373 * ((n + 1 : Nat) : Int)) + 40692 * ((n + 1 : Nat) : Int) * ((n + 1 : Nat) : Int) + 103 = x4
      refine ⟨.int x4, rfl, x4, 2147483629, rfl, rfl, (by show (0 : Int) < 2147483629; decide), ?_⟩
      dsimp only
      have u3 := Int.emod_nonneg x4 (show (2147483629 : Int) ≠ 0 by decide)
      have u4 := Int.emod_lt_of_pos x4 (show (0 : Int) < 2147483629 by decide)
      generalize x4 % 2147483629 = x5 at u3 u4
      refine ⟨.int x5, rfl, .int x5, rfl, x5, x5, rfl, rfl, .inl ⟨by omega, by omega⟩, _, 2147483587, rfl, rfl, (by show (0 : Int) < 2147483587; decide), _, 16, rfl, rfl, ⟨by decide, by decide⟩, .int k, rfl, _, k, rfl, rfl, by omega, ?_⟩
      refine nxt _ _ _ (Int.emod_nonneg _ (by omega)) (Int.emod_lt_of_pos _ (by omega)) s4 ⟨b, c, [], L1, n + 1, ?_⟩
      exact ⟨upd_same, by rw [upd_ne D.ab.symm]; exact D.big, by rw [upd_ne D.ac.symm]; exact D.all, D.bc, D.ne, D.l0, D.l1, D.pos, Nat.succ_le_succ D.le⟩
theorem ok__law_deck {a0 : Addr} {fd0 : FuncData} (F0 : Fun K "_law_deck" "_law_deck" s__law_deck a0 fd0) (z_abs : mg "abs" = none) (z_len : mg "len" = none) : FnOk P w K mg base CX0 1 a0 fd0 ["_law_script"] (sp__law_deck K) := by
  refine fn_mk F0 sc__law_deck (fun ds c p h => ?_) (fun cdv A outer s H E hr => ⟨_, (pss_cons (by exact ps_setLc (i := 1) (own := [("_law_cell", 2)]) (g := gName 2) (by rfl) sc__law_deck.nd rfl rfl (sw_true rfl rfl rfl (by decide +kernel)) (by exact piL K (pv 0)) (blkOk_by (own := [("_law_cell", 2)]) (N := ["_law_script", "_law_cells", "_law_cell"]) (sc := defScope s__law_deck) (by decide +kernel)) (fun _ _ _ _ _ => (by exact pg_name (i := 2) sc__law_deck.nd rfl (.inl rfl))) (fun _ _ _ _ _ => pts_nil) (fun _ _ _ _ _ => (by exact pe_callB call_absQ (by rfl) z_abs boot_abs (by exact pa_cons (pv 2) pa_nil)))) (by exact pss_one (by exact ps_ret (by exact pe_lst (by exact pa_cons (by exact pe_lc (own := [("_law_cell", 2)]) (g := gName 2) (by rfl) sc__law_deck.nd (by exact piL K (pv 1)) (blkOk_by (own := [("_law_cell", 2)]) (N := ["_law_script", "_law_cells", "_law_cell"]) (sc := defScope s__law_deck) (by decide +kernel)) (fun _ _ _ _ _ => (by exact pg_name (i := 2) sc__law_deck.nd rfl (.inl rfl))) (fun _ _ _ _ _ => (by exact pts_one (by exact pt_cmpR op_ge (pv 2) (by exact pe_op op_pow pe_int pe_int) (nomark _)))) (fun _ _ _ _ _ => (pv 2))) (by exact pa_cons (by exact pe_op op_cat (pv 1) (by exact pe_lst (by exact pa_cons (by exact pe_op op_add (by exact pe_callB (lenK K) (by rfl) z_len PySem.boot_len (by exact pa_cons (pv 1) pa_nil)) pe_int) pa_nil))) (by exact pa_cons pe_int pa_nil))))))), fun ds I c R hI hS => ?_⟩)
  · obtain ⟨ns, rfl, _⟩ := h
    rfl
  · obtain ⟨ns, rfl, hn, hp⟩ := hS
    refine Sv.le (v_set (P := (· = .lst (iL (absL ns)))) ((e_map (ce := 0) (n := 63) (js := [2]) (fun d Δ => Δ.set 2 (some d)) (fun d => match d with | .int i => .int (i.natAbs : Int) | _ => .non) (i_scr (ev_var rfl)) (by rw [List.length_map]; exact hn) (by decide) (fun j h => h) fun d hd => ?_).to ?_) fun d hd => ?_) (by omega) (c := (0 + 63 * (0 + 0)) + (0 + 63 * (0 + 0) + (0 + (0 + 0) + (0 + 0))))
    · obtain ⟨i, _, rfl⟩ := List.mem_map.mp hd
      exact ⟨gd_name, e_cb (a_cons (ev_var rfl) a_nil) cd_abs⟩
    · show Dt.lst _ = Dt.lst (List.map Dt.int (List.map _ ns))
      rw [List.map_map, List.map_map]
      rfl
    · subst hd
      have hl : (absL ns).length = ns.length := List.length_map _
      refine sv_ret ((e_lst (a_cons ((e_lc (ct := 0) (ce := 0) (n := 63) (js := [2]) (i_list (ev_var rfl)) (by rw [List.length_map, hl]; exact hn) (by decide) (fun j h => h) (fun d Δ => Δ.set 2 (some d)) (fun d => match d with | .int i => if 1000000000000000000 ≤ i then some (.int i) else none | _ => none) fun d hd => ?_).to (y := .lst (iL (bigL ns))) ?_) (a_cons (e_op (ev_var rfl) (e_lst (a_cons (e_op (e_cb (a_cons (ev_var rfl) a_nil) (cd_len rfl)) ev_int opd_add) a_nil) (by show 1 ≤ sizeLine; decide)) (opd_cat ?_)) (a_cons ev_int a_nil))) (by show 3 ≤ sizeLine; decide)).imp fun _ e => ?_)
      · obtain ⟨i, _, rfl⟩ := List.mem_map.mp hd
        refine ⟨gd_name, _, t_test (e_op (ev_var rfl) (e_op ev_int ev_int (opd_pow ⟨by decide, by decide, by decide⟩)) opd_ge), fun e => ?_, fun e => (ev_var (d := .int i) rfl).imp fun _ z => ?_⟩
        · show (if 1000000000000000000 ≤ i then some (Dt.int i) else none) = none
          exact if_neg (of_decide_eq_false e)
        · show (if 1000000000000000000 ≤ i then some (Dt.int i) else none) = _
          rw [if_pos (show (1000000000000000000 : Int) ≤ i from of_decide_eq_true e), z]
      · show Dt.lst _ = Dt.lst (List.map Dt.int (List.filter _ (absL ns)))
        congr 1
        rw [List.filterMap_map]
        have key : ∀ l : List Int, (l.filterMap fun i => if 1000000000000000000 ≤ i then some (Dt.int i) else none) = List.map Dt.int (l.filter fun x => decide (1000000000000000000 ≤ x)) := fun l => by
          induction l with
          | nil => rfl
          | cons x l ih =>
            rw [List.filterMap_cons, List.filter_cons, ih]
            by_cases hx : (1000000000000000000 : Int) ≤ x
            · simp [hx]
            · simp [hx]
        exact key _
      · rw [List.length_map, hl]
        exact Nat.le_trans (Nat.succ_le_succ hn) (by decide)
      · rw [e]
        have z : Dt.lst [.lst (iL (bigL ns)), .lst (iL (absL ns) ++ [.int (((iL (absL ns)).length : Int) + 3)]), .int 0] = deckD ns := by
          unfold deckD
          rw [List.length_map, hl, show iL (absL ns ++ [(ns.length : Int) + 3]) = iL (absL ns) ++ [.int ((ns.length : Int) + 3)] from List.map_append]
        rw [z]
        exact hp
theorem ok__law_one {a0 : Addr} {fd0 : FuncData} (F0 : Fun K "_law_one" "_law_one" s__law_one a0 fd0) (C__law_next : Cal P w K mg base 1 "_law_next" ["_law_deck_here", "_law_many"] (sp__law_next K)) (z_len : mg "len" = none) : FnOk P w K mg base CX0 2 a0 fd0 ["_law_deck_here", "_law_some"] (sp__law_one K) := by
  refine fn_mk F0 sc__law_one (fun ds c p h => ?_) (fun cdv A outer s H E hr => ⟨_, (pss_one (by exact ps_ret (by exact pe_ix (ixs K) (pv 1) (by exact pe_cal C__law_next (hr.mono (by decide)) (by rfl) (by exact pa_cons (pv 0) (by exact pa_cons (by exact pe_callB (lenK K) (by rfl) z_len PySem.boot_len (by exact pa_cons (pv 1) pa_nil)) pa_nil))) (fun _ _ => rfl)))), fun ds I c R hI hS => ?_⟩)
  · obtain ⟨a, xs, rfl, _⟩ := h
    rfl
  · obtain ⟨a, xs, rfl, hne, hl, rfl, hp⟩ := hS
    obtain ⟨a', r', e1, rfl⟩ := hI
    cases e1
    have h0 : 0 < xs.length := List.length_pos_iff.mpr hne
    refine Sv.le (sv_ret (ev_op (P2 := fun d => ∃ i : Int, d = .int i ∧ 0 ≤ i ∧ i < xs.length) (ev_var (d := .lst xs) rfl) (e_call (c2 := 1) (a_cons (ev_var rfl) (a_cons (e_cb (a_cons (ev_var rfl) a_nil) (cd_len rfl)) a_nil)) ⟨a, _, rfl, rfl⟩ ⟨a, _, rfl, by omega, by omega, rfl, fun i i0 i1 => ⟨i, rfl, i0, i1⟩⟩) fun x y e1 e2 => ?_)) (by omega)
    obtain ⟨i, rfl, i0, i1⟩ := e2
    subst e1
    exact opd_pick i0 i1 hp
theorem ok__law_great {a0 : Addr} {fd0 : FuncData} (F0 : Fun K "_law_great" "_law_great" s__law_great a0 fd0) (C__law_next : Cal P w K mg base 1 "_law_next" ["_law_deck_here", "_law_many"] (sp__law_next K)) : FnOk P w K mg base CX0 2 a0 fd0 ["_law_deck_here"] (sp__law_great K) := by
  refine fn_mk F0 sc__law_great (fun ds c p h => ?_) (fun cdv A outer s H E hr => ⟨_, (pss_one (by exact ps_ret (by exact pe_ix (ixs K) (by exact pe_lst (by exact pa_cons pe_int (by exact pa_cons pe_int (by exact pa_cons pe_int (by exact pa_cons (by exact pe_op op_pow pe_int pe_int) pa_nil))))) (by exact pe_cal C__law_next (hr.mono (by decide)) (by rfl) (by exact pa_cons (pv 0) (by exact pa_cons pe_int pa_nil))) (fun _ _ => rfl)))), fun ds I c R hI hS => ?_⟩)
  · obtain ⟨a, rfl, _⟩ := h
    rfl
  · obtain ⟨a, rfl, rfl, hp⟩ := hS
    obtain ⟨a', r', e1, rfl⟩ := hI
    cases e1
    refine Sv.le (sv_ret (ev_op (P2 := fun d => ∃ i : Int, d = .int i ∧ 0 ≤ i ∧ i < 4) (e_lst (a_cons ev_int (a_cons ev_int (a_cons ev_int (a_cons (e_op ev_int ev_int (opd_pow ⟨by decide, by decide, by decide⟩)) a_nil)))) (by decide)) (e_call (c2 := 1) (a_cons (ev_var rfl) (a_cons ev_int a_nil)) ⟨a, _, rfl, rfl⟩ ⟨a, _, rfl, by omega, by omega, rfl, fun i i0 i1 => ⟨i, rfl, i0, i1⟩⟩) fun x y e1 e2 => ?_)) (by omega)
    obtain ⟨i, rfl, i0, i1⟩ := e2
    subst e1
    refine opd_pick i0 i1 fun d hd => ?_
    rcases List.mem_cons.mp hd with z | hd
    · rw [z]
      exact hp 2 (by decide) (by decide)
    rcases List.mem_cons.mp hd with z | hd
    · rw [z]
      exact hp 4 (by decide) (by decide)
    rcases List.mem_cons.mp hd with z | hd
    · rw [z]
      exact hp 9 (by decide) (by decide)
    rcases List.mem_cons.mp hd with z | hd
    · rw [z]
      exact hp _ (by decide) (by decide)
    · cases hd
theorem ok__law_level {a0 : Addr} {fd0 : FuncData} (F0 : Fun K "_law_level" "_law_level" s__law_level a0 fd0) (C__law_next : Cal P w K mg base 1 "_law_next" ["_law_deck_here", "_law_many"] (sp__law_next K)) : FnOk P w K mg base CX0 2 a0 fd0 ["_law_deck_here", "_law_great_here"] (sp__law_level K) := by
  refine fn_mk F0 sc__law_level (fun ds c p h => ?_) (fun cdv A outer s H E hr => ⟨_, (pss_one (by exact ps_ret (by exact pe_ix (ixs K) (by exact pe_lst (by exact pa_cons pe_int (by exact pa_cons (pv 1) (by exact pa_cons (by exact pe_cal C__law_next (hr.mono (by decide)) (by rfl) (by exact pa_cons (pv 0) (by exact pa_cons (by exact pe_op op_add (pv 1) pe_int) pa_nil))) (by exact pa_cons (by exact pe_cal C__law_next (hr.mono (by decide)) (by rfl) (by exact pa_cons (pv 0) (by exact pa_cons (by exact pe_op op_add (pv 1) pe_int) pa_nil))) pa_nil))))) (by exact pe_cal C__law_next (hr.mono (by decide)) (by rfl) (by exact pa_cons (pv 0) (by exact pa_cons pe_int pa_nil))) (fun _ _ => rfl)))), fun ds I c R hI hS => ?_⟩)
  · obtain ⟨a, g, rfl, _⟩ := h
    rfl
  · obtain ⟨a, g, rfl, g1, g2, rfl, hp⟩ := hS
    obtain ⟨a', r', e1, rfl⟩ := hI
    cases e1
    have hg : g + 1 ≤ 10000000000000 := by
      have : g ≤ 1000000000000 := g2
      omega
    refine Sv.le (sv_ret (ev_op (P1 := fun x => ∃ xs : List Dt, x = .lst xs ∧ xs.length = 4 ∧ ∀ d ∈ xs, R d) (P2 := fun d => ∃ i : Int, d = .int i ∧ 0 ≤ i ∧ i < 4) (ev_lst (p_cons (ev_int.imp fun _ e => ?_) (p_cons ((ev_var (d := .int g) rfl).imp fun _ e => ?_) (p_cons (e_call (c2 := 1) (a_cons (ev_var rfl) (a_cons (e_op (ev_var rfl) ev_int opd_add) a_nil)) ⟨a, _, rfl, rfl⟩ ⟨a, _, rfl, by omega, hg, rfl, fun i i0 i1 => hp i i0 ?_⟩) (p_cons (e_call (c2 := 1) (a_cons (ev_var rfl) (a_cons (e_op (ev_var rfl) ev_int opd_add) a_nil)) ⟨a, _, rfl, rfl⟩ ⟨a, _, rfl, by omega, hg, rfl, fun i i0 i1 => hp i i0 ?_⟩) p_nil)))) fun ds h => ⟨by rw [h.1]; decide, _, rfl, h.1, h.2⟩) (e_call (c2 := 1) (a_cons (ev_var rfl) (a_cons ev_int a_nil)) ⟨a, _, rfl, rfl⟩ ⟨a, _, rfl, by omega, by omega, rfl, fun i i0 i1 => ⟨i, rfl, i0, i1⟩⟩) fun x y e1 e2 => ?_)) (by omega)
    · rw [e]
      exact hp 0 (by decide) (by decide)
    · rw [e]
      exact hp g (by omega) g2
    · exact Int.le_trans (by omega : i ≤ g) g2
    · exact Int.le_trans (by omega : i ≤ g) g2
    · obtain ⟨xs, rfl, hl, hx⟩ := e1
      obtain ⟨i, rfl, i0, i1⟩ := e2
      exact opd_pick i0 (by rw [hl]; exact i1) hx
theorem ok__law_row {a0 : Addr} {fd0 : FuncData} (F0 : Fun K "_law_row" "_law_row" s__law_row a0 fd0) (C__law_level : Cal P w K mg base 2 "_law_level" ["_law_deck_here", "_law_great_here"] (sp__law_level K)) (z_tuple : mg "tuple" = none) (z_range : mg "range" = none) : FnOk P w K mg base CX0 3 a0 fd0 ["_law_deck_here", "_law_great_here", "_law_count"] (sp__law_row K) := by
  refine fn_mk F0 sc__law_row (fun ds c p h => ?_) (fun cdv A outer s H E hr => ⟨_, (pss_one (by exact ps_ret (by exact pe_callTy (tupleK K) (by rfl) z_tuple boot_tuple (by exact pa_cons (by exact pe_lc (own := [("_law_k", 3)]) (g := gName 3) (by rfl) sc__law_row.nd (by exact pi_range1 (by rfl) z_range (by exact pa_cons (pv 2) pa_nil)) (blkOk_by (own := [("_law_k", 3)]) (N := ["_law_deck_here", "_law_great_here", "_law_count", "_law_k"]) (sc := defScope s__law_row) (by decide +kernel)) (fun _ _ _ _ _ => (by exact pg_name (i := 3) sc__law_row.nd rfl (.inl rfl))) (fun _ _ _ _ _ => pts_nil) (fun _ _ _ _ _ => (by exact pe_cal C__law_level (hr.mono (by decide)) (by rfl) (by exact pa_cons (pv 0) (by exact pa_cons (pv 1) pa_nil))))) pa_nil)))), fun ds I c R hI hS => ?_⟩)
  · obtain ⟨a, g, n, rfl, _⟩ := h
    rfl
  · obtain ⟨a, g, n, rfl, g1, g2, n6, rfl, hp⟩ := hS
    obtain ⟨a', r', e1, rfl⟩ := hI
    cases e1
    refine Sv.le (sv_ret (ev_cb (Ps := fun ds => ∃ xs : List Dt, ds = [.lst xs] ∧ xs.length = n ∧ ∀ x ∈ xs, ∃ i : Int, x = .int i ∧ 0 ≤ i ∧ i ≤ TOPI) (fun m σ G F R H mb e i s Q q => ea_cons (e_draw (ce := 3) (n := 6) (js := [3]) (fun d Δ => Δ.set 3 (some d)) (fun x => ∃ i : Int, x = .int i ∧ 0 ≤ i ∧ i ≤ TOPI) (i_rng (a_cons (ev_var rfl) a_nil) (by omega) (by omega)) (by rw [rngD_len]; omega) (by decide) (fun j h => h) fun d hd => ⟨gd_name, e_call (c2 := 3) (a_cons (ev_var rfl) (a_cons (ev_var rfl) a_nil)) ⟨a, _, rfl, rfl⟩ ⟨a, g, rfl, g1, g2, rfl, fun i i0 i1 => ⟨i, rfl, i0, i1⟩⟩⟩) ea_nil m σ G F R H mb e i s Q fun vs ds G' R' H' e' i' s' d' p' => q vs ds G' R' H' e' i' s' d' ?_) fun ds h => ?_)) (by omega)
    · obtain ⟨_, _, rfl, ⟨xs, rfl, hl, hx⟩, rfl⟩ := p'
      exact ⟨xs, rfl, by rw [hl, rngD_len]; omega, hx⟩
    · obtain ⟨xs, rfl, hl, hx⟩ := h
      refine (cd_tuple rfl).imp fun d e => ?_
      obtain ⟨v, ev, hv⟩ := lev_list hl hx
      rw [e, ev]
      exact hp v hv
theorem ok__law_table {a0 : Addr} {fd0 : FuncData} (F0 : Fun K "_law_table" "_law_table" s__law_table a0 fd0) (C__law_next : Cal P w K mg base 1 "_law_next" ["_law_deck_here", "_law_many"] (sp__law_next K)) (C__law_row : Cal P w K mg base 3 "_law_row" ["_law_deck_here", "_law_great_here", "_law_count"] (sp__law_row K)) (z_tuple : mg "tuple" = none) (z_range : mg "range" = none) : FnOk P w K mg base CX0 4 a0 fd0 ["_law_deck_here", "_law_great_here", "_law_outlets", "_law_inlets"] (sp__law_table K) := by
  refine fn_mk F0 sc__law_table (fun ds c p h => ?_) (fun cdv A outer s H E hr => ⟨_, (pss_cons (by exact ps_asg (by exact pe_tup (by exact pa_cons (by exact pe_op op_add pe_int (by exact pe_cal C__law_next (hr.mono (by decide)) (by rfl) (by exact pa_cons (pv 0) (by exact pa_cons (pv 2) pa_nil)))) (by exact pa_cons (by exact pe_op op_add pe_int (by exact pe_cal C__law_next (hr.mono (by decide)) (by rfl) (by exact pa_cons (pv 0) (by exact pa_cons (pv 3) pa_nil)))) pa_nil))) (by exact pg_tup (by rfl) (by exact pgs_cons (by exact pg_name (i := 2) sc__law_table.nd rfl (.inl rfl)) (by exact pgs_cons (by exact pg_name (i := 3) sc__law_table.nd rfl (.inr rfl)) pgs_nil)))) (by exact pss_one (by exact ps_ret (by exact pe_callTy (tupleK K) (by rfl) z_tuple boot_tuple (by exact pa_cons (by exact pe_lc (own := [("_law_k", 4)]) (g := gName 4) (by rfl) sc__law_table.nd (by exact pi_range1 (by rfl) z_range (by exact pa_cons (pv 2) pa_nil)) (blkOk_by (own := [("_law_k", 4)]) (N := ["_law_deck_here", "_law_great_here", "_law_outlets", "_law_inlets", "_law_k"]) (sc := defScope s__law_table) (by decide +kernel)) (fun _ _ _ _ _ => (by exact pg_name (i := 4) sc__law_table.nd rfl (.inl rfl))) (fun _ _ _ _ _ => pts_nil) (fun _ _ _ _ _ => (by exact pe_cal C__law_row (hr.mono (by decide)) (by rfl) (by exact pa_cons (pv 0) (by exact pa_cons (pv 1) (by exact pa_cons (pv 3) pa_nil)))))) pa_nil))))), fun ds I c R hI hS => ?_⟩)
  · obtain ⟨a, g, o, i, rfl, _⟩ := h
    rfl
  · obtain ⟨a, g, o, i, rfl, g1, g2, o1, o6, i1, i6, rfl, hp⟩ := hS
    obtain ⟨a', r', e1, rfl⟩ := hI
    cases e1
    refine Sv.le (sv_seq (sv_asgP (P := fun d => ∃ o2 i2 : Nat, d = .tup [.int (o2 : Nat), .int (i2 : Nat)] ∧ 1 ≤ o2 ∧ o2 ≤ 6 ∧ 1 ≤ i2 ∧ i2 ≤ 6) (N := fun Δ => ∃ o2 i2 : Nat, Δ = [some (.ptr a), some (.int g), some (.int (o2 : Nat)), some (.int (i2 : Nat)), none] ∧ 1 ≤ o2 ∧ o2 ≤ 6 ∧ 1 ≤ i2 ∧ i2 ≤ 6) (ev_tup (ea_cons (P1 := fun d => ∃ k : Nat, d = .int (k : Nat) ∧ 1 ≤ k ∧ k ≤ 6) (ev_op (P2 := fun d => ∃ j : Int, d = .int j ∧ 0 ≤ j ∧ j < o) ev_int (e_call (c2 := 1) (a_cons (ev_var rfl) (a_cons (ev_var rfl) a_nil)) ⟨a, _, rfl, rfl⟩ ⟨a, _, rfl, o1, by omega, rfl, fun j j0 j1 => ⟨j, rfl, j0, j1⟩⟩) fun x y e1 e2 => ?_) (ea_cons (P1 := fun d => ∃ k : Nat, d = .int (k : Nat) ∧ 1 ≤ k ∧ k ≤ 6) (ev_op (P2 := fun d => ∃ j : Int, d = .int j ∧ 0 ≤ j ∧ j < i) ev_int (e_call (c2 := 1) (a_cons (ev_var rfl) (a_cons (ev_var rfl) a_nil)) ⟨a, _, rfl, rfl⟩ ⟨a, _, rfl, i1, by omega, rfl, fun j j0 j1 => ⟨j, rfl, j0, j1⟩⟩) fun x y e1 e2 => ?_) ea_nil)) fun ds h => ?_) fun d h => ?_) fun Δ' h => ?_) (c := (0 + (0 + (0 + 0) + 1) + (0 + (0 + (0 + 0) + 1) + 0)) + (0 + 0 + 6 * (0 + 18) + 0)) (by omega)
    · obtain ⟨j, rfl, j0, j1⟩ := e2
      subst e1
      exact opd_add.imp fun d e => ⟨(1 + j).toNat, by rw [e, Int.toNat_of_nonneg (by omega)], by omega, by omega⟩
    · obtain ⟨j, rfl, j0, j1⟩ := e2
      subst e1
      exact opd_add.imp fun d e => ⟨(1 + j).toNat, by rw [e, Int.toNat_of_nonneg (by omega)], by omega, by omega⟩
    · obtain ⟨_, _, rfl, ⟨o2, rfl, p1, p2⟩, _, _, rfl, ⟨i2, rfl, p3, p4⟩, rfl⟩ := h
      exact ⟨by show 2 ≤ sizeLine; decide, o2, i2, rfl, p1, p2, p3, p4⟩
    · obtain ⟨o2, i2, rfl, p1, p2, p3, p4⟩ := h
      exact ⟨_, _, rfl, o2, i2, rfl, p1, p2, p3, p4⟩
    · obtain ⟨o2, i2, rfl, p1, p2, p3, p4⟩ := h
      refine sv_ret (ev_cb (Ps := fun ds => ∃ xs : List Dt, ds = [.lst xs] ∧ xs.length = o2 ∧ ∀ x ∈ xs, ∃ v, x = vec v ∧ isV i2 v) (fun m σ G F R H mb e i s Q q => ea_cons (e_draw (ce := 18) (n := 6) (js := [4]) (fun d Δ => Δ.set 4 (some d)) (fun x => ∃ v, x = vec v ∧ isV i2 v) (i_rng (a_cons (ev_var rfl) a_nil) (by omega) (by omega)) (by rw [rngD_len]; omega) (by decide) (fun j h => h) fun d hd => ⟨gd_name, e_call (c2 := 18) (a_cons (ev_var rfl) (a_cons (ev_var rfl) (a_cons (ev_var rfl) a_nil))) ⟨a, _, rfl, rfl⟩ ⟨a, g, i2, rfl, g1, g2, p4, rfl, fun v hv => ⟨v, rfl, hv⟩⟩⟩) ea_nil m σ G F R H mb e i s Q fun vs ds G' R' H' e' i' s' d' p' => q vs ds G' R' H' e' i' s' d' ?_) fun ds h => ?_)
      · obtain ⟨_, _, rfl, ⟨xs, rfl, hl, hx⟩, rfl⟩ := p'
        exact ⟨xs, rfl, by rw [hl, rngD_len]; omega, hx⟩
      · obtain ⟨xs, rfl, hl, hx⟩ := h
        refine (cd_tuple rfl).imp fun d e => ?_
        rw [e]
        obtain ⟨t, rfl, ht⟩ := row_list hx
        refine hp i2 t ⟨fun z => ?_, ?_, p3, p4, fun r hr => (ht r hr).len, fun r hr => (ht r hr).lev⟩
        · rw [z] at hl
          simp at hl
          omega
        · rw [List.length_map] at hl
          omega
theorem ok__law_levels {a0 : Addr} {fd0 : FuncData} (F0 : Fun K "_law_levels" "_law_levels" s__law_levels a0 fd0) (z_tuple : mg "tuple" = none) (z_max : mg "max" = none) (z_min : mg "min" = none) (z_zip : mg "zip" = none) : FnOk P w K mg base CX0 1 a0 fd0 ["_law_table_here", "_law_setting"] (sp__law_levels K) := by
  refine fn_mk F0 sc__law_levels (fun ds c p h => ?_) (fun cdv A outer s H E hr => ⟨_, (pss_one (by exact ps_ret (by exact pe_callTy (tupleK K) (by rfl) z_tuple boot_tuple (by exact pa_cons (by exact pe_lc (own := [("_law_row_here", 2)]) (g := gName 2) (by rfl) sc__law_levels.nd (by exact piT K (pv 0)) (blkOk_by (own := [("_law_row_here", 2)]) (N := ["_law_table_here", "_law_setting", "_law_row_here", "_law_width", "_law_level_here"]) (sc := defScope s__law_levels) (by decide +kernel)) (fun _ _ _ _ _ => (by exact pg_name (i := 2) sc__law_levels.nd rfl (.inl rfl))) (fun _ _ _ _ _ => pts_nil) (fun _ _ _ _ _ => (by exact pe_callB (maxK K) (by rfl) z_max boot_max (by exact pa_cons (by exact pe_lc (own := [("_law_width", 3), ("_law_level_here", 4)]) (g := gTup K 2 (gCons (gName 3) (gCons (gName 4) (gNil)))) (by rfl) sc__law_levels.nd (by exact piZ K (by rfl) z_zip (by exact pa_cons (pv 2) (by exact pa_cons (pv 1) pa_nil))) (blkOk_by (by rfl)) (fun _ _ _ _ _ => (by exact pg_tup (by rfl) (by exact pgs_cons (by exact pg_name (i := 3) sc__law_levels.nd rfl (.inl rfl)) (by exact pgs_cons (by exact pg_name (i := 4) sc__law_levels.nd rfl (.inl rfl)) pgs_nil)))) (fun _ _ _ _ _ => pts_nil) (fun _ _ _ _ _ => (by exact pe_callB (call_min2Q (by rfl)) (by rfl) z_min boot_min (by exact pa_cons (pv 3) (by exact pa_cons (pv 4) pa_nil))))) pa_nil)))) pa_nil)))), fun ds I c R hI hS => ?_⟩)
  · obtain ⟨n, t, v, rfl, _⟩ := h
    rfl
  · obtain ⟨n, t, v, rfl, ht, hv, hp⟩ := hS
    refine Sv.le (sv_ret (e_cb (ds := [.lst (iL (levs t v))]) (a_cons ((e_map (ce := 0) (n := 6) (js := [2]) (fun d Δ => Δ.set 2 (some d)) (fun d => .int (rowLev (unI d) v)) (i_tup (ev_var rfl)) ?_ (by decide) (fun j h => h) fun d hd => ?_).to ?_) a_nil) ?_)) (by omega)
    · rw [List.length_map]
      exact ht.le
    · obtain ⟨r, hr2, rfl⟩ := List.mem_map.mp hd
      have hrl := ht.row r hr2
      have hvl := hv.len
      have n1 := ht.n1
      have n6 := ht.n6
      have hz : zipD (iL r) (iL v) = (List.zip r v).map fun p => Dt.tup [.int p.1, .int p.2] := zipD_ints r v
      refine ⟨gd_name, Ev.le (c := 0 + (0 + (0 + 0)) + 6 * (0 + (0 + (0 + 0))) + 0) (e_cb (ds := [.lst (iL (List.zipWith min r v))]) (a_cons ((e_map (ce := 0 + (0 + 0)) (n := 6) (js := [3, 4]) (fun d Δ => match d with | .tup [x, y] => (Δ.set 3 (some x)).set 4 (some y) | _ => Δ) (fun d => match d with | .tup [.int a, .int b] => .int (min a b) | _ => .non) (i_zip (a_cons (ev_var rfl) (a_cons (ev_var rfl) a_nil))) ?_ (by decide) (fun j h => h) fun d hd => ?_).to ?_) a_nil) ?_) (by omega)⟩
      · rw [zipD_len, List.length_map, List.length_map]
        omega
      · rw [hz] at hd
        obtain ⟨p, _, rfl⟩ := List.mem_map.mp hd
        exact ⟨gd_pair, e_cb (a_cons (ev_var rfl) (a_cons (ev_var rfl) a_nil)) cd_min2⟩
      · rw [hz, List.map_map]
        show Dt.lst _ = Dt.lst _
        congr 1
        show List.map _ (List.zip r v) = List.map Dt.int (List.zipWith min r v)
        rw [List.zip, List.map_zipWith, List.map_zipWith]
        rfl
      · have hne : List.zipWith min r v ≠ [] := fun z => by
          have zl : (List.zipWith min r v).length = 0 := by rw [z]; rfl
          rw [List.length_zipWith] at zl
          omega
        refine (cd_max hne).imp fun d e => ?_
        obtain ⟨m, rfl, m1, m2⟩ := e
        rw [unI_vec, mx_of m1 m2]
        rfl
    · rw [List.map_map]
      show Dt.lst _ = Dt.lst _
      congr 1
      show _ = List.map Dt.int (List.map _ t)
      rw [List.map_map]
      refine List.map_congr_left fun r _ => ?_
      show Dt.int (rowLev (unI (vec r)) v) = _
      rw [unI_vec]
      rfl
    · refine (cd_tuple rfl).imp fun d e => ?_
      rw [e]
      exact hp
end
end KK
set_option Elab.async false
set_option linter.all false
set_option maxRecDepth 100000
set_option maxHeartbeats 4000000
namespace KK
open PySem PySem.Spec PyProof.Rows L2 Fw
open Evl (Ex)
def sp__law_wants (K : PySem.W.Frag) : Sp := mk K deckI fun ds c p => ∃ a n t g, ds = [.ptr a, tbl t, .int g] ∧ isT n t ∧ 1 ≤ g ∧ g ≤ TOPI ∧ c = 41 ∧ ∀ w, isV t.length w → p (vec w)
def sp__law_drawn (K : PySem.W.Frag) : Sp := mk K deckI fun ds c p => ∃ a n t w, ds = [.ptr a, tbl t, vec w] ∧ isT n t ∧ isV t.length w ∧ c = 7 ∧ ∀ v, isV n v → p (vec v)
def sp__law_excluded (K : PySem.W.Frag) : Sp := mk K deckI fun ds c p => ∃ a n t w o xs, ds = [.ptr a, tbl t, vec w, .tup [.int (o : Nat), .tup xs]] ∧ isT n t ∧ isV t.length w ∧ isEv n t w o xs ∧ c = 90 ∧ p (.bl true)
def sp__law_never_excluded (K : PySem.W.Frag) : Sp := mk K deckI fun ds c p => ∃ a n t w, ds = [.ptr a, tbl t, vec w] ∧ isT n t ∧ isV t.length w ∧ (∃ v, isV n v ∧ levs t v = w) ∧ c = 156 ∧ p (.bl true)
def sp_law (K : PySem.W.Frag) : Sp := lawSp K
theorem cut_pre (xs : List Dt) (s : Nat) : cutD xs none (some (s : Int)) = xs.take s := by
  unfold Fw.cutD
  rw [HT.sIx_none, HT.sIx_nat, Nat.sub_zero, List.drop_zero]
  by_cases h : s ≤ xs.length
  · rw [Nat.min_eq_left h]
  · rw [Nat.min_eq_right (by omega), List.take_length, List.take_of_length_le (by omega)]
theorem cut_suf (xs : List Dt) (s : Nat) : cutD xs (some (s : Int)) none = xs.drop s := by
  unfold Fw.cutD
  rw [HT.sIx_none, HT.sIx_nat]
  by_cases h : s ≤ xs.length
  · rw [Nat.min_eq_left h]
    exact List.take_of_length_le (by rw [List.length_drop]; exact Nat.le_refl _)
  · rw [Nat.min_eq_right (by omega), Nat.sub_self, List.take_zero, List.drop_eq_nil_of_le (by omega)]
theorem cut_set {f : List Int} {s : Nat} {m : Int} (h : s < f.length) : cutD (iL f) none (some (s : Int)) ++ [.int m] ++ cutD (iL f) (some ((s : Int) + 1)) none = iL (f.set s m) := by
  rw [show ((s : Int) + 1) = ((s + 1 : Nat) : Int) from rfl, cut_pre, cut_suf, List.append_assoc]
  show _ = List.map Dt.int (f.set s m)
  rw [List.set_eq_take_append_cons_drop, if_pos h, List.map_append, List.map_cons, ← List.map_take, ← List.map_drop]
  rfl
theorem cut_len1 (f : List Int) (s : Nat) : (cutD (iL f) none (some (s : Int))).length ≤ f.length := by
  rw [cut_pre, List.length_take, List.length_map]
  omega
theorem cut_len2 (f : List Int) (s : Nat) : (cutD (iL f) (some ((s : Int) + 1)) none).length ≤ f.length := by
  rw [show ((s : Int) + 1) = ((s + 1 : Nat) : Int) from rfl, cut_suf, List.length_drop, List.length_map]
  omega
theorem set_isV {n : Nat} {f : List Int} {s : Nat} {m : Int} (h : isV n f) (h0 : 0 ≤ m) (h1 : m ≤ TOPI) : isV n (f.set s m) := by
  refine ⟨by rw [List.length_set]; exact h.len, fun x hx => ?_⟩
  rcases List.mem_or_eq_of_mem_set hx with z | z
  · exact h.lev x z
  · subst z
    exact ⟨h0, h1⟩
theorem set_getD {f : List Int} {s : Nat} {m : Int} (h : s < f.length) : (f.set s m).getD s 0 = m := by
  rw [List.getD_eq_getElem?_getD, List.getElem?_set_self h]
  rfl
theorem set_getD_ne {f : List Int} {s j : Nat} {m : Int} (h : s ≠ j) : (f.set s m).getD j 0 = f.getD j 0 := by
  rw [List.getD_eq_getElem?_getD, List.getElem?_set_ne h, List.getD_eq_getElem?_getD]
theorem set_leV {n : Nat} {f : List Int} {s : Nat} {m : Int} (hs : s < f.length) (h : m ≤ f.getD s 0) : leV n (f.set s m) f := fun j _ => by
  by_cases e : s = j
  · subst e
    rw [set_getD hs]
    exact h
  · rw [set_getD_ne e]
    exact Int.le_refl _
theorem at_getD {n : Nat} {f : List Int} {s : Nat} (h : isV n f) (hs : s < n) : (iL f)[s]? = some (.int (f.getD s 0)) := by
  have hl : s < f.length := by rw [h.len]; exact hs
  rw [List.getElem?_map, List.getElem?_eq_getElem hl, getD_at hl]
  rfl
theorem sol_true {n : Nat} {t : List (List Int)} {w x : List Int} (hx : isV n x) (h : levs t x = w) : solD n t w (vec x) = true := by
  unfold solD
  rw [areLev_vec.mpr hx, unI_vec, Bool.true_and]
  exact decide_eq_true h
theorem sol_false {n : Nat} {t : List (List Int)} {w x : List Int} (h : levs t x ≠ w) : solD n t w (vec x) = false := by
  unfold solD
  rw [unI_vec, decide_eq_false h, Bool.and_false]
theorem zip_mem {n : Nat} {a b : List Int} (ha : isV n a) (hb : isV n b) {d : Dt} (h : d ∈ zipD (iL a) (iL b)) : ∃ j, j < n ∧ d = .tup [.int (a.getD j 0), .int (b.getD j 0)] := by
  rw [zipD_ints] at h
  obtain ⟨p, hp, rfl⟩ := List.mem_map.mp h
  obtain ⟨j, hj, e⟩ := List.getElem_of_mem hp
  rw [List.length_zip, ha.len, hb.len] at hj
  refine ⟨j, by omega, ?_⟩
  rw [← e, List.getElem_zip, getD_at (by rw [ha.len]; omega), getD_at (by rw [hb.len]; omega)]
/-- settings made of a pair of them, place by place -/
theorem made_of {n : Nat} {a b : List Int} (ha : isV n a) (hb : isV n b) {lo hi : Int → Int → Int} {xs : List Dt} (h : All2 (fun d x => ∃ i j z : Int, d = .tup [.int i, .int j] ∧ x = .int z ∧ lo i j ≤ z ∧ z ≤ hi i j) (zipD (iL a) (iL b)) xs) :
    ∃ v : List Int, xs = iL v ∧ v.length = n ∧ ∀ j, j < n → lo (a.getD j 0) (b.getD j 0) ≤ v.getD j 0 ∧ v.getD j 0 ≤ hi (a.getD j 0) (b.getD j 0) := by
  rw [zipD_ints] at h
  have key : ∀ (ps : List (Int × Int)) (xs : List Dt), All2 (fun d x => ∃ i j z : Int, d = .tup [.int i, .int j] ∧ x = .int z ∧ lo i j ≤ z ∧ z ≤ hi i j) (ps.map fun p => Dt.tup [.int p.1, .int p.2]) xs → ∃ v : List Int, xs = iL v ∧ v.length = ps.length ∧ ∀ j p, ps[j]? = some p → lo p.1 p.2 ≤ v.getD j 0 ∧ v.getD j 0 ≤ hi p.1 p.2 := fun ps => by
    induction ps with
    | nil =>
      intro xs h
      cases h
      exact ⟨[], rfl, rfl, fun j p e => by simp at e⟩
    | cons q ps ih =>
      intro xs h
      cases h with
      | cons h1 h2 =>
        obtain ⟨i, j, z, e1, rfl, l1, l2⟩ := h1
        obtain ⟨v, rfl, hl, hv⟩ := ih _ h2
        have e3 : q.1 = i ∧ q.2 = j := by
          injection e1 with e1
          injection e1 with e1 e2
          injection e2 with e2 _
          injection e1 with e1
          injection e2 with e2
          exact ⟨e1, e2⟩
        refine ⟨z :: v, rfl, by rw [List.length_cons, List.length_cons, hl], fun k p e => ?_⟩
        cases k with
        | zero =>
          cases (show q = p from Option.some.inj e)
          rw [e3.1, e3.2]
          exact ⟨l1, l2⟩
        | succ k => exact hv k p e
  obtain ⟨v, e, hl, hv⟩ := key _ _ h
  rw [List.length_zip, ha.len, hb.len, Nat.min_self] at hl
  refine ⟨v, e, hl, fun j hj => ?_⟩
  have z := hv j (a.getD j 0, b.getD j 0) (by
    rw [getD_at (by rw [ha.len]; exact hj), getD_at (by rw [hb.len]; exact hj)]
    exact List.getElem?_eq_some_iff.mpr ⟨by rw [List.length_zip, ha.len, hb.len]; omega, List.getElem_zip⟩)
  exact z
theorem isV_of {n : Nat} {v a b : List Int} (hl : v.length = n) (ha : isV n a) (hb : isV n b) (h : ∀ j, j < n → (a.getD j 0 ≤ v.getD j 0 ∨ b.getD j 0 ≤ v.getD j 0) ∧ (v.getD j 0 ≤ a.getD j 0 ∨ v.getD j 0 ≤ b.getD j 0)) : isV n v := by
  refine ⟨hl, fun x hx => ?_⟩
  obtain ⟨j, hj, e⟩ := List.getElem_of_mem hx
  have hj2 : j < n := by rw [← hl]; exact hj
  obtain ⟨h1, h2⟩ := h j hj2
  have e2 := getD_at (d := 0) hj
  rw [e] at e2
  rw [e2] at h1 h2
  have := getD_lev ha hj2
  have := getD_lev hb hj2
  omega
theorem sol_no_ev {n : Nat} {t : List (List Int)} {w v : List Int} {o : Nat} {xs : List Dt} (ht : isT n t) (hv : isV n v) (hw : isV t.length w) (hs : levs t v = w) : evD n t w (.tup [.int (o : Nat), .tup xs]) = false := by
  cases h : evD n t w (.tup [.int (o : Nat), .tup xs]) with
  | false => rfl
  | true =>
    have h2 : ((decide (0 ≤ (o : Int)) && decide ((o : Int) < (t.length : Int))) && rsnsD n t w (o : Int).toNat (.tup xs)) = true := h
    rw [Bool.and_eq_true, Bool.and_eq_true, Int.toNat_natCast, decide_eq_true_eq, decide_eq_true_eq] at h2
    obtain ⟨k, _, hk⟩ := ev_against ht hv hw h2.2 (by omega) (by rw [hs]; exact Int.le_refl _)
    rw [hs] at hk
    exact absurd hk (Int.lt_irrefl _)
theorem ev_no_sol {n : Nat} {t : List (List Int)} {w v : List Int} {o : Nat} {xs : List Dt} (ht : isT n t) (hv : isV n v) (hw : isV t.length w) (h : isEv n t w o xs) : levs t v ≠ w := fun z => by
  have h1 := sol_no_ev (o := o) (xs := xs) ht hv hw z
  rw [ev_of h] at h1
  cases h1
/-- wants above that of the outlet may grow -/
theorem ev_more {n : Nat} {t : List (List Int)} {w w' : List Int} {o : Nat} {xs : List Dt} (hw : isV t.length w) (h : isEv n t w o xs) (hc : ∀ k, k < t.length → w.getD k 0 ≤ w.getD o 0 → w'.getD k 0 = w.getD k 0) : isEv n t w' o xs := by
  refine ⟨h.o1, h.len, h.ni, fun j x hx => ?_⟩
  have h1 := h.ok j x hx
  have e1 := hc o h.o1 (Int.le_refl _)
  unfold rsn at h1 ⊢
  rw [e1]
  by_cases hlt : (t.getD o []).getD j 0 < w.getD o 0
  · rw [if_pos hlt] at h1 ⊢
    exact h1
  · rw [if_neg hlt, Bool.and_eq_true] at h1
    rw [if_neg hlt, Bool.and_eq_true]
    refine ⟨h1.1, ?_⟩
    cases x with
    | int k =>
      have g1 : (decide (0 ≤ k) && decide (k < (t.length : Int))) = true := h1.1
      have g2 : (decide (w.getD k.toNat 0 < (t.getD k.toNat []).getD j 0) && decide (w.getD k.toNat 0 < w.getD o 0)) = true := h1.2
      rw [Bool.and_eq_true, decide_eq_true_eq, decide_eq_true_eq] at g1 g2
      have e2 := hc k.toNat (by omega) (by omega)
      show (decide (w'.getD k.toNat 0 < (t.getD k.toNat []).getD j 0) && decide (w'.getD k.toNat 0 < w'.getD o 0)) = true
      rw [e1, e2, decide_eq_true g2.1, decide_eq_true g2.2]
      rfl
    | _ => exact absurd h1.1 (by simp [isNumD])
theorem ev_notin {n : Nat} {t : List (List Int)} {w : List Int} {o : Nat} {xs : List Dt} (h : isEv n t w o xs) : memI (o : Int) xs = false := by
  cases q : memI (o : Int) xs with
  | false => rfl
  | true =>
    unfold memI at q
    obtain ⟨d, hd, e⟩ := List.any_eq_true.mp q
    obtain ⟨j, hj, e2⟩ := List.getElem_of_mem hd
    have h1 := h.ok j d (by rw [← e2]; exact List.getElem?_eq_getElem hj)
    cases d with
    | int k =>
      have e3 : k = (o : Int) := of_decide_eq_true e
      subst e3
      unfold rsn at h1
      split at h1
      · cases h1
      · rw [Bool.and_eq_true] at h1
        have g2 : (decide (w.getD (o : Int).toNat 0 < (t.getD (o : Int).toNat []).getD j 0) && decide (w.getD (o : Int).toNat 0 < w.getD o 0)) = true := h1.2
        rw [Bool.and_eq_true, Int.toNat_natCast, decide_eq_true_eq, decide_eq_true_eq] at g2
        exact absurd g2.2 (Int.lt_irrefl _)
    | _ => cases e
/-- a tuple of levels made item by item -/
theorem made1 {n : Nat} {w : List Int} (hw : isV n w) {S : Int → Int → Prop} (hS : ∀ i z, 0 ≤ i → i ≤ TOPI → S i z → 0 ≤ z ∧ z ≤ TOPI) {xs : List Dt} (h : All2 (fun d x => ∃ i z : Int, d = .int i ∧ x = .int z ∧ S i z) (iL w) xs) : ∃ v : List Int, xs = iL v ∧ isV n v ∧ ∀ k, k < n → S (w.getD k 0) (v.getD k 0) := by
  have key : ∀ (l : List Int) (xs : List Dt), (∀ x ∈ l, 0 ≤ x ∧ x ≤ TOPI) → All2 (fun d x => ∃ i z : Int, d = .int i ∧ x = .int z ∧ S i z) (iL l) xs → ∃ v : List Int, xs = iL v ∧ v.length = l.length ∧ (∀ x ∈ v, 0 ≤ x ∧ x ≤ TOPI) ∧ ∀ k, k < l.length → S (l.getD k 0) (v.getD k 0) := fun l => by
    induction l with
    | nil =>
      intro xs _ h
      cases h
      exact ⟨[], rfl, rfl, fun x h => (by cases h), fun k h => absurd h (Nat.not_lt_zero k)⟩
    | cons y l ih =>
      intro xs hl h
      cases h with
      | cons h1 h2 =>
        obtain ⟨i, z, e1, rfl, hs⟩ := h1
        cases e1
        obtain ⟨v, rfl, vl, vv, vk⟩ := ih _ (fun x hx => hl x (List.mem_cons_of_mem _ hx)) h2
        have hy := hl y List.mem_cons_self
        refine ⟨z :: v, rfl, by rw [List.length_cons, List.length_cons, vl], fun x hx => ?_, fun k hk => ?_⟩
        · rcases List.mem_cons.mp hx with e | e
          · subst e
            exact hS y x hy.1 hy.2 hs
          · exact vv x e
        · cases k with
          | zero => exact hs
          | succ k => exact vk k (Nat.lt_of_succ_lt_succ hk)
  obtain ⟨v, e, vl, vv, vk⟩ := key w xs hw.lev h
  exact ⟨v, e, ⟨by rw [vl, hw.len], vv⟩, fun k hk => vk k (by rw [hw.len]; exact hk)⟩
section
variable {P : Program} {w : World} {K : PySem.W.Frag} {mg : Str → Option Value} {base : Heap}
theorem ok__law_wants {a0 : Addr} {fd0 : FuncData} (F0 : Fun K "_law_wants" "_law_wants" s__law_wants a0 fd0) (C__law_levels : Cal P w K mg base 1 "_law_levels" ["_law_table_here", "_law_setting"] (sp__law_levels K)) (C__law_next : Cal P w K mg base 1 "_law_next" ["_law_deck_here", "_law_many"] (sp__law_next K)) (C__law_row : Cal P w K mg base 3 "_law_row" ["_law_deck_here", "_law_great_here", "_law_count"] (sp__law_row K)) (C__law_level : Cal P w K mg base 2 "_law_level" ["_law_deck_here", "_law_great_here"] (sp__law_level K)) (z_len : mg "len" = none) : FnOk P w K mg base CX0 4 a0 fd0 ["_law_deck_here", "_law_table_here", "_law_great_here"] (sp__law_wants K) := by
  refine fn_mk F0 sc__law_wants (fun ds c p h => ?_) (fun cdv A outer s H E hr => ⟨_, (pss_cons (by exact ps_set (i := 3) sc__law_wants.nd rfl (.inl rfl) (by exact pe_cal C__law_levels (hr.mono (by decide)) (by rfl) (by exact pa_cons (pv 1) (by exact pa_cons (by exact pe_cal C__law_row (hr.mono (by decide)) (by rfl) (by exact pa_cons (pv 0) (by exact pa_cons (pv 2) (by exact pa_cons (by exact pe_callB (lenK K) (by rfl) z_len PySem.boot_len (by exact pa_cons (by exact pe_ix (ixs K) (pv 1) pe_int (fun _ _ => rfl)) pa_nil)) pa_nil)))) pa_nil)))) (by exact pss_cons (by exact ps_set (i := 4) sc__law_wants.nd rfl (.inl rfl) (by exact pe_cal C__law_next (hr.mono (by decide)) (by rfl) (by exact pa_cons (pv 0) (by exact pa_cons pe_int pa_nil)))) (by exact pss_cons (by exact ps_if (by exact pt_cmpR op_eq (pv 4) pe_int (nomark _)) (by exact pss_one (by exact ps_ret (by exact pe_cal C__law_row (hr.mono (by decide)) (by rfl) (by exact pa_cons (pv 0) (by exact pa_cons (pv 2) (by exact pa_cons (by exact pe_callB (lenK K) (by rfl) z_len PySem.boot_len (by exact pa_cons (pv 1) pa_nil)) pa_nil)))))) pss_nil) (by exact pss_cons (by exact ps_if (by exact pt_cmpR op_eq (pv 4) pe_int (nomark _)) (by exact pss_cons (by exact ps_set (i := 5) sc__law_wants.nd rfl (.inl rfl) (by exact pe_cal C__law_next (hr.mono (by decide)) (by rfl) (by exact pa_cons (pv 0) (by exact pa_cons (by exact pe_callB (lenK K) (by rfl) z_len PySem.boot_len (by exact pa_cons (pv 1) pa_nil)) pa_nil)))) (by exact pss_one (by exact ps_ret (by exact pe_op (catT K) (by exact pe_op (catT K) (by exact pe_slice (slT K) (pv 3) po_none (by exact po_some (pv 5))) (by exact pe_tup (by exact pa_cons (by exact pe_cal C__law_level (hr.mono (by decide)) (by rfl) (by exact pa_cons (pv 0) (by exact pa_cons (pv 2) pa_nil))) pa_nil))) (by exact pe_slice (slT K) (pv 3) (by exact po_some (by exact pe_op op_add (pv 5) pe_int)) po_none))))) pss_nil) (by exact pss_one (by exact ps_ret (pv 3))))))), fun ds I c R hI hS => ?_⟩)
  · obtain ⟨a, n, t, g, rfl, _⟩ := h
    rfl
  · obtain ⟨a, n, t, g, rfl, ht, g1, g2, rfl, hp⟩ := hS
    obtain ⟨a', r', e1, rfl⟩ := hI
    cases e1
    have hne := ht.ne
    obtain ⟨r0, tr, rfl⟩ : ∃ r0 tr, t = r0 :: tr := by
      cases t with
      | nil => exact absurd rfl hne
      | cons a b => exact ⟨a, b, rfl⟩
    have h0 : r0.length = n := ht.row r0 List.mem_cons_self
    have n6 := ht.n6
    have t6 := ht.le
    refine Sv.le (v_set (c2 := 23) (P := fun d => ∃ w, d = vec w ∧ isV (r0 :: tr).length w) (ev_call (c2 := 0) (Ps := fun ds => ∃ v, ds = [tbl (r0 :: tr), vec v] ∧ isV n v) (fun m σ G F R H mb e i s Q q => ea_cons (ev_var (d := tbl (r0 :: tr)) rfl) (ea_cons (P1 := fun d => ∃ v, d = vec v ∧ isV n v) (e_call (c2 := 18) (a_cons (ev_var rfl) (a_cons (ev_var rfl) (a_cons (e_cb (a_cons (e_op (ev_var rfl) ev_int (opd_ix (d := vec r0) rfl (atI_nat (j := 0) rfl))) a_nil) (cd_len rfl)) a_nil))) ⟨a, _, rfl, rfl⟩ ⟨a, g, n, by rw [List.length_map, h0], g1, g2, n6, rfl, fun v hv => ⟨v, rfl, hv⟩⟩) ea_nil) m σ G F R H mb e i s Q fun vs ds G' R' H' e' i' s' d' p' => q vs ds G' R' H' e' i' s' d' ?_) fun ds h => ?_) fun d hd => ?_) (by omega)
    · obtain ⟨_, _, rfl, rfl, _, _, rfl, ⟨v, rfl, hv⟩, rfl⟩ := p'
      exact ⟨v, rfl, hv⟩
    · obtain ⟨v, rfl, hv⟩ := h
      exact ⟨trivial, n, r0 :: tr, v, rfl, ht, hv, _, rfl, levs_isV ht hv⟩
    obtain ⟨w, rfl, hw⟩ := hd
    refine Sv.le (v_set (c2 := 22) (P := fun d => ∃ i : Int, d = .int i) (e_call (c2 := 1) (a_cons (ev_var rfl) (a_cons ev_int a_nil)) ⟨a, _, rfl, rfl⟩ ⟨a, _, rfl, by omega, by omega, rfl, fun i _ _ => ⟨i, rfl⟩⟩) fun d hd => ?_) (by omega)
    obtain ⟨way, rfl⟩ := hd
    refine Sv.le (v_ifs (c2 := 18) (c3 := 4) (t_test (e_op (ev_var rfl) ev_int (opd_eq rfl))) (fun _ => Sv.le (sv_retS (e_call (c2 := 18) (a_cons (ev_var rfl) (a_cons (ev_var rfl) (a_cons (e_cb (a_cons (ev_var rfl) a_nil) (cd_len rfl)) a_nil))) ⟨a, _, rfl, rfl⟩ ⟨a, g, (r0 :: tr).length, by rw [List.length_map], g1, g2, t6, rfl, fun v hv => hp v hv⟩)) (by omega)) fun _ => sv_nextS ?_) (by omega)
    refine Sv.le (v_ifs (c2 := 4) (c3 := 0) (t_test (e_op (ev_var rfl) ev_int (opd_eq rfl))) (fun _ => ?_) fun _ => Sv.le (sv_nextS (sv_ret ((ev_var (d := vec w) rfl).imp fun _ e => by rw [e]; exact hp w hw))) (by omega)) (by omega)
    refine Sv.le (sv_seq (c1 := 4) (c2 := 0) (N1 := fun _ => False) ?_ fun _ h => h.elim) (by omega)
    refine Sv.le (v_set (c2 := 3) (P := fun d => ∃ s : Nat, d = .int (s : Nat) ∧ s < (r0 :: tr).length) (e_call (c2 := 1) (a_cons (ev_var rfl) (a_cons (e_cb (a_cons (ev_var rfl) a_nil) (cd_len rfl)) a_nil)) ⟨a, _, rfl, rfl⟩ ⟨a, _, rfl, by rw [List.length_map, List.length_cons]; omega, by rw [List.length_map]; omega, rfl, fun i i0 i1 => ⟨i.toNat, by rw [Int.toNat_of_nonneg i0], by rw [List.length_map] at i1; omega⟩⟩) fun d hd => ?_) (by omega)
    obtain ⟨s, rfl, hs⟩ := hd
    have hsl : s < w.length := by rw [hw.len]; exact hs
    have c1 := cut_len1 w s
    have c2 := cut_len2 w s
    have wl := hw.len
    refine Sv.le (sv_ret (ev_op (P1 := fun d => ∃ l : Int, d = .tup (cutD (iL w) none (some (s : Int)) ++ [.int l]) ∧ 0 ≤ l ∧ l ≤ TOPI) (P2 := (· = .tup (cutD (iL w) (some ((s : Int) + 1)) none))) (ev_op (P1 := (· = .tup (cutD (iL w) none (some (s : Int))))) (P2 := fun d => ∃ l : Int, d = .tup [.int l] ∧ 0 ≤ l ∧ l ≤ TOPI) (e_slT (ev_var rfl) eo_none (o_some (ev_var rfl))) (ev_tup (Ps := fun ds => ∃ l : Int, ds = [.int l] ∧ 0 ≤ l ∧ l ≤ TOPI) (fun m σ G F R H mb e i s Q q => ea_cons (P1 := fun d => ∃ l : Int, d = .int l ∧ 0 ≤ l ∧ l ≤ TOPI) (e_call (c2 := 3) (a_cons (ev_var rfl) (a_cons (ev_var rfl) a_nil)) ⟨a, _, rfl, rfl⟩ ⟨a, g, rfl, g1, g2, rfl, fun i i0 i1 => ⟨i, rfl, i0, i1⟩⟩) ea_nil m σ G F R H mb e i s Q fun vs ds G' R' H' e' i' s' d' p' => q vs ds G' R' H' e' i' s' d' ?_) fun ds h => ?_) fun x y e1 e2 => ?_) (e_slT (ev_var rfl) (o_some (e_op (ev_var rfl) ev_int opd_add)) eo_none) fun x y e1 e2 => ?_)) (by omega)
    · obtain ⟨_, _, rfl, ⟨l, rfl, l0, l1⟩, rfl⟩ := p'
      exact ⟨l, rfl, l0, l1⟩
    · obtain ⟨l, rfl, l0, l1⟩ := h
      exact ⟨by show 1 ≤ sizeLine; decide, l, rfl, l0, l1⟩
    · obtain ⟨l, rfl, l0, l1⟩ := e2
      subst e1
      refine (opd_catT ?_).imp fun _ e => ⟨l, e, l0, l1⟩
      exact Nat.le_trans (Nat.add_le_add_right (Nat.le_trans c1 (by omega : w.length ≤ 6)) 1) (by decide)
    · obtain ⟨l, rfl, l0, l1⟩ := e1
      subst e2
      refine (opd_catT ?_).imp fun _ e => ?_
      · rw [List.length_append]
        exact Nat.le_trans (Nat.add_le_add (Nat.add_le_add_right (Nat.le_trans c1 (by omega : w.length ≤ 6)) 1) (Nat.le_trans c2 (by omega : w.length ≤ 6))) (by decide)
      · rw [e, cut_set hsl]
        exact hp _ (set_isV hw l0 l1)
theorem ok__law_drawn {a0 : Addr} {fd0 : FuncData} (F0 : Fun K "_law_drawn" "_law_drawn" s__law_drawn a0 fd0) (C__law_next : Cal P w K mg base 1 "_law_next" ["_law_deck_here", "_law_many"] (sp__law_next K)) (C__law_one : Cal P w K mg base 2 "_law_one" ["_law_deck_here", "_law_some"] (sp__law_one K)) (z_tuple : mg "tuple" = none) (z_list : mg "list" = none) : FnOk P w K mg base CX0 3 a0 fd0 ["_law_deck_here", "_law_table_here", "_law_wants_here"] (sp__law_drawn K) := by
  refine fn_mk F0 sc__law_drawn (fun ds c p h => ?_) (fun cdv A outer s H E hr => ⟨_, (pss_cons (by exact ps_set (i := 3) sc__law_drawn.nd rfl (.inr rfl) (by exact pe_op op_cat (by exact pe_callTy (listK K) (by rfl) z_list boot_list (by exact pa_cons (pv 2) pa_nil)) (by exact pe_lst (by exact pa_cons pe_int (by exact pa_cons (by exact pe_op op_pow pe_int pe_int) (by exact pa_cons (by exact pe_cal C__law_next (hr.mono (by decide)) (by rfl) (by exact pa_cons (pv 0) (by exact pa_cons pe_int pa_nil))) pa_nil)))))) (by exact pss_one (by exact ps_ret (by exact pe_callTy (tupleK K) (by rfl) z_tuple boot_tuple (by exact pa_cons (by exact pe_lc (own := [("_law_width", 4)]) (g := gName 4) (by rfl) sc__law_drawn.nd (by exact piT K (by exact pe_ix (ixs K) (pv 1) pe_int (fun _ _ => rfl))) (blkOk_by (own := [("_law_width", 4)]) (N := ["_law_deck_here", "_law_table_here", "_law_wants_here", "_law_some", "_law_width"]) (sc := defScope s__law_drawn) (by decide +kernel)) (fun _ _ _ _ _ => (by exact pg_name (i := 4) sc__law_drawn.nd rfl (.inl rfl))) (fun _ _ _ _ _ => pts_nil) (fun _ _ _ _ _ => (by exact pe_cal C__law_one (hr.mono (by decide)) (by rfl) (by exact pa_cons (pv 0) (by exact pa_cons (pv 3) pa_nil))))) pa_nil))))), fun ds I c R hI hS => ?_⟩)
  · obtain ⟨a, n, t, w, rfl, _⟩ := h
    rfl
  · obtain ⟨a, n, t, w, rfl, ht, hw, rfl, hp⟩ := hS
    obtain ⟨a', r', e1, rfl⟩ := hI
    cases e1
    have hne := ht.ne
    obtain ⟨r0, tr, rfl⟩ : ∃ r0 tr, t = r0 :: tr := by
      cases t with
      | nil => exact absurd rfl hne
      | cons a b => exact ⟨a, b, rfl⟩
    have h0 : r0.length = n := ht.row r0 List.mem_cons_self
    have n6 := ht.n6
    have t6 := ht.le
    refine Sv.le (v_set (c2 := 6) (P := fun d => ∃ xs : List Dt, d = .lst xs ∧ xs ≠ [] ∧ xs.length ≤ 1000 ∧ ∀ x ∈ xs, ∃ i : Int, x = .int i ∧ 0 ≤ i ∧ i ≤ TOPI) (ev_op (P1 := (· = .lst (iL w))) (P2 := fun x => ∃ xs : List Dt, x = .lst xs ∧ xs.length = 3 ∧ ∀ x ∈ xs, ∃ i : Int, x = .int i ∧ 0 ≤ i ∧ i ≤ TOPI) (e_cb (a_cons (ev_var rfl) a_nil) (cd_list rfl)) (ev_lst (p_cons (ev_int.imp fun _ e => ⟨0, e, by decide, by decide⟩) (p_cons ((e_op ev_int ev_int (opd_pow ⟨by decide, by decide, by decide⟩)).imp fun _ e => ⟨_, e, by decide, by decide⟩) (p_cons (e_call (c2 := 1) (a_cons (ev_var rfl) (a_cons ev_int a_nil)) ⟨a, _, rfl, rfl⟩ ⟨a, _, rfl, by omega, by omega, rfl, fun i i0 i1 => ⟨i, rfl, i0, Int.le_trans (by omega : i ≤ 10) (by decide)⟩⟩) p_nil))) fun ds h => ⟨by rw [h.1]; decide, ds, rfl, h.1, h.2⟩) fun x y e1 e2 => ?_) fun d hd => ?_) (by omega)
    · obtain ⟨xs, rfl, hl, hx⟩ := e2
      subst e1
      refine (opd_cat ?_).imp fun _ e => ⟨_, e, ?_, ?_, fun x hm => ?_⟩
      · rw [List.length_map, hw.len, hl]
        exact Nat.le_trans (Nat.add_le_add_right t6 3) (by decide)
      · intro z
        have := congrArg List.length z
        rw [List.length_append, hl] at this
        simp at this
      · rw [List.length_append, List.length_map, hw.len, hl]
        omega
      · rcases List.mem_append.mp hm with z | z
        · obtain ⟨i, hi, rfl⟩ := List.mem_map.mp z
          exact ⟨i, rfl, hw.lev i hi⟩
        · exact hx x z
    obtain ⟨ys, rfl, hne, hyl, hys⟩ := hd
    refine Sv.le (sv_ret (ev_cb (Ps := fun ds => ∃ xs : List Dt, ds = [.lst xs] ∧ xs.length = n ∧ ∀ x ∈ xs, ∃ i : Int, x = .int i ∧ 0 ≤ i ∧ i ≤ TOPI) (fun m σ G F R H mb e i s Q q => ea_cons (e_draw (ce := 1) (n := 6) (js := [4]) (fun d Δ => Δ.set 4 (some d)) (fun x => ∃ i : Int, x = .int i ∧ 0 ≤ i ∧ i ≤ TOPI) (i_tup (e_op (ev_var rfl) ev_int (opd_ix (d := vec r0) rfl (atI_nat (j := 0) rfl)))) (by rw [List.length_map]; omega) (by decide) (fun j h => h) fun d hd => ⟨gd_name, e_call (c2 := 1) (a_cons (ev_var rfl) (a_cons (ev_var rfl) a_nil)) ⟨a, _, rfl, rfl⟩ ⟨a, ys, rfl, hne, hyl, rfl, hys⟩⟩) ea_nil m σ G F R H mb e i s Q fun vs ds G' R' H' e' i' s' d' p' => q vs ds G' R' H' e' i' s' d' ?_) fun ds h => ?_)) (by omega)
    · obtain ⟨_, _, rfl, ⟨xs, rfl, hl, hx⟩, rfl⟩ := p'
      exact ⟨xs, rfl, by rw [hl, List.length_map]; exact h0, hx⟩
    · obtain ⟨xs, rfl, hl, hx⟩ := h
      refine (cd_tuple rfl).imp fun d e => ?_
      obtain ⟨v, ev, hv⟩ := lev_list hl hx
      rw [e, ev]
      exact hp v hv
theorem ok__law_excluded {a0 : Addr} {fd0 : FuncData} (F0 : Fun K "_law_excluded" "_law_excluded" s__law_excluded a0 fd0) (C__law_drawn : Cal P w K mg base 3 "_law_drawn" ["_law_deck_here", "_law_table_here", "_law_wants_here"] (sp__law_drawn K)) (C__law_levels : Cal P w K mg base 1 "_law_levels" ["_law_table_here", "_law_setting"] (sp__law_levels K)) (C_is_solution : Cal P w K mg base 6 "is_solution" ["table", "wants", "value"] (sp_is_solution K)) (C_is_evidence : Cal P w K mg base 5 "is_evidence" ["table", "wants", "value"] (sp_is_evidence K)) (C__law_next : Cal P w K mg base 1 "_law_next" ["_law_deck_here", "_law_many"] (sp__law_next K)) (z_range : mg "range" = none) (z_min : mg "min" = none) (z_tuple : mg "tuple" = none) (z_len : mg "len" = none) : FnOk P w K mg base CX0 7 a0 fd0 ["_law_deck_here", "_law_table_here", "_law_wants_here", "_law_told"] (sp__law_excluded K) := by
  refine fn_mk F0 sc__law_excluded (fun ds c p h => ?_) (fun cdv A outer s H E hr => ⟨_, (pss_cons (by exact ps_asg (pv 3) (by exact pg_tup (by rfl) (by exact pgs_cons (by exact pg_name (i := 4) sc__law_excluded.nd rfl (.inl rfl)) (by exact pgs_cons (by exact pg_name (i := 5) sc__law_excluded.nd rfl (.inl rfl)) pgs_nil)))) (by exact pss_cons (by exact ps_for PassesOwn.never rfl (by exact pi_range1 (by rfl) z_range (by exact pa_cons pe_int pa_nil)) (by exact pg_name (i := 6) sc__law_excluded.nd rfl (.inl rfl)) (by exact pss_cons (by exact ps_set (i := 7) sc__law_excluded.nd rfl (.inl rfl) (by exact pe_cal C__law_drawn (hr.mono (by decide)) (by rfl) (by exact pa_cons (pv 0) (by exact pa_cons (pv 1) (by exact pa_cons (pv 2) pa_nil))))) (by exact pss_cons (by exact ps_set (i := 8) sc__law_excluded.nd rfl (.inr rfl) (by exact pe_cal C__law_levels (hr.mono (by decide)) (by rfl) (by exact pa_cons (pv 1) (by exact pa_cons (pv 7) pa_nil)))) (by exact pss_cons (by exact ps_if (by exact pt_cmpR op_notBl (by exact pe_cal C_is_solution (hr.mono (by decide)) (by rfl) (by exact pa_cons (pv 1) (by exact pa_cons (pv 2) (by exact pa_cons (pv 7) pa_nil)))) pe_bl (nomark _)) (by exact pss_one (by exact ps_ret pe_bl)) pss_nil) (by exact pss_cons (by exact ps_setLc (i := 9) (own := [("_law_k", 12)]) (g := gName 12) (by rfl) sc__law_excluded.nd rfl rfl (sw_true rfl rfl rfl (by decide +kernel)) (by exact pi_range1 (by rfl) z_range (by exact pa_cons (by exact pe_callB (lenK K) (by rfl) z_len PySem.boot_len (by exact pa_cons (pv 2) pa_nil)) pa_nil)) (blkOk_by (own := [("_law_k", 12)]) (N := ["_law_deck_here", "_law_table_here", "_law_wants_here", "_law_told", "_law_outlet", "_law_reasons", "_law_time", "_law_setting", "_law_levels_here", "_law_beyond", "_law_other", "_law_want", "_law_k"]) (sc := defScope s__law_excluded) (by decide +kernel)) (fun _ _ _ _ _ => (by exact pg_name (i := 12) sc__law_excluded.nd rfl (.inl rfl))) (fun _ _ _ _ _ => (by exact pts_one (by exact pt_cmpR op_gt (by exact pe_ix (ixs K) (pv 8) (pv 12) (fun _ _ => rfl)) (by exact pe_ix (ixs K) (pv 2) (pv 12) (fun _ _ => rfl)) (nomark _)))) (fun _ _ _ _ _ => (pv 12))) (by exact pss_one (by exact ps_if (by exact PW.pt (by exact pw_and (by exact pt_cmpR op_ge (by exact pe_ix (ixs K) (pv 8) (pv 4) (fun _ _ => rfl)) (by exact pe_ix (ixs K) (pv 2) (pv 4) (fun _ _ => rfl)) (nomark _)) (by exact pw_and1 (by exact pt_cmpR (eqK K hr.units) (pv 9) (by exact pe_lst pa_nil) (nomark _))))) (by exact pss_one (by exact ps_ret pe_bl)) pss_nil))))))) (by exact pss_cons (by exact ps_set (i := 10) sc__law_excluded.nd rfl (.inl rfl) (by exact pe_lst pa_nil)) (by exact pss_cons (by exact ps_for PassesOwn.never rfl (by exact piT K (pv 2)) (by exact pg_name (i := 11) sc__law_excluded.nd rfl (.inl rfl)) (by exact pss_one (by exact ps_expr (by exact pe_bm PySem.F.plainAttrs_list PySem.F.slot_list_append PySem.F.type_list_append mt_append (pv 10) (by exact pa_cons (by exact pe_ifExp (by exact pt_cmpR op_gt (pv 11) (by exact pe_ix (ixs K) (pv 2) (pv 4) (fun _ _ => rfl)) (nomark _)) (by exact pe_callB (call_min2Q (by rfl)) (by rfl) z_min boot_min (by exact pa_cons (by exact pe_op op_pow pe_int pe_int) (by exact pa_cons (by exact pe_op op_add (pv 11) (by exact pe_cal C__law_next (hr.mono (by decide)) (by rfl) (by exact pa_cons (pv 0) (by exact pa_cons pe_int pa_nil)))) pa_nil))) (pv 11)) pa_nil))))) (by exact pss_one (by exact ps_ret (by exact pe_and (by exact pe_cmpR (notInK K) (pv 4) (pv 5) (by rfl)) (by exact pe_one (by exact pe_cmpR op_isBl (by exact pe_cal C_is_evidence (hr.mono (by decide)) (by rfl) (by exact pa_cons (pv 1) (by exact pa_cons (by exact pe_callTy (tupleK K) (by rfl) z_tuple boot_tuple (by exact pa_cons (pv 10) pa_nil)) (by exact pa_cons (pv 3) pa_nil)))) pe_bl (nomark _)))))))))), fun ds I c R hI hS => ?_⟩)
  · obtain ⟨a, n, t, w, o, xs, rfl, _⟩ := h
    rfl
  · obtain ⟨a, n, t, w, o, xs, rfl, ht, hw, hev, rfl, hp⟩ := hS
    obtain ⟨a', r', e1, rfl⟩ := hI
    cases e1
    have t6 := ht.le
    have ho := hev.o1
    have how : o < w.length := by rw [hw.len]; exact ho
    refine Sv.le (sv_seq (c2 := 90) (sv_asgP (N := (· = [some (.ptr a), some (tbl t), some (vec w), some (.tup [.int (o : Nat), .tup xs]), some (.int (o : Nat)), some (.tup xs), none, none, none, none, none, none, none])) (ev_var rfl) fun d hd => ⟨_, _, hd, rfl⟩) fun Δ' h => ?_) (by omega)
    subst h
    refine Sv.le (sv_seq (c2 := 6) (sv_for (n := 12) (cb := 7) (js := [6]) (N := fun Δ => ∃ y6 y7 y8 y9 y12, Δ = [some (.ptr a), some (tbl t), some (vec w), some (.tup [.int (o : Nat), .tup xs]), some (.int (o : Nat)), some (.tup xs), y6, y7, y8, y9, none, none, y12]) (i_rng (a_cons ev_int a_nil) (by decide) (by decide)) (fun its e => ?_) (fun d Δ => Δ.set 6 (some d)) (fun _ _ Δ => ∃ y6 y7 y8 y9 y12, Δ = [some (.ptr a), some (tbl t), some (vec w), some (.tup [.int (o : Nat), .tup xs]), some (.int (o : Nat)), some (.tup xs), y6, y7, y8, y9, none, none, y12]) (fun _ _ => ⟨_, _, _, _, _, rfl⟩) (fun its k d Δ' e hk hΔ => ?_) fun _ _ _ h => h) fun Δ' h => ?_) (by omega)
    · subst e
      rw [rngD_len]
      decide
    · obtain ⟨y6, y7, y8, y9, y12, rfl⟩ := hΔ
      refine ⟨gd_name, ?_⟩
      refine Sv.le (v_set (c2 := 0) (P := fun d => ∃ v, d = vec v ∧ isV n v) (e_call (c2 := 7) (a_cons (ev_var rfl) (a_cons (ev_var rfl) (a_cons (ev_var rfl) a_nil))) ⟨a, _, rfl, rfl⟩ ⟨a, n, t, w, rfl, ht, hw, rfl, fun v hv => ⟨v, rfl, hv⟩⟩) fun d hd => ?_) (by omega)
      obtain ⟨v, rfl, hv⟩ := hd
      refine Sv.le (v_set (c2 := 0) (P := (· = vec (levs t v))) (e_call (c2 := 0) (a_cons (ev_var rfl) (a_cons (ev_var rfl) a_nil)) trivial ⟨n, t, v, rfl, ht, hv, rfl⟩) fun d hd => ?_) (by omega)
      subst hd
      have hLl : (levs t v).length = t.length := List.length_map _
      refine Sv.le (v_ifs (c2 := 0) (c3 := 0) (t_test (e_op (e_call (c2 := 0) (a_cons (ev_var rfl) (a_cons (ev_var rfl) (a_cons (ev_var rfl) a_nil))) trivial ⟨n, t, w, vec v, rfl, ht, hw, val_vec v, rfl⟩) ev_bl opd_notB)) (fun e => v_no ?_) fun _ => sv_nextS ?_) (by omega)
      · rw [sol_false (ev_no_sol ht hv hw hev)] at e
        cases e
      refine Sv.le (v_set (c2 := 0) (P := (· = .lst ((rngD 0 t.length).filterMap fun d => match d with | .int i => if w.getD i.toNat 0 < (levs t v).getD i.toNat 0 then some (.int i) else none | _ => none))) ((e_lc (ct := 0) (ce := 0) (n := 6) (js := [12]) (i_rng (n := ((iL w).length : Int)) (a_cons (e_cb (a_cons (ev_var rfl) a_nil) (cd_len rfl)) a_nil) (by omega) (by rw [List.length_map, hw.len]; omega)) (by rw [rngD_len, List.length_map, hw.len]; omega) (by decide) (fun j h => h) (fun d Δ => Δ.set 12 (some d)) (fun d => match d with | .int i => if w.getD i.toNat 0 < (levs t v).getD i.toNat 0 then some (.int i) else none | _ => none) fun d hd => ?_).to (by rw [List.length_map, hw.len, Int.toNat_natCast])) fun d hd => ?_) (by omega)
      · rw [List.length_map, hw.len, Int.toNat_natCast] at hd
        unfold rngD at hd
        obtain ⟨k, hk, rfl⟩ := List.mem_map.mp hd
        have hk2 := List.mem_range.mp hk
        rw [Int.zero_add]
        refine ⟨gd_name, _, t_test (e_op (e_op (ev_var rfl) (ev_var rfl) (opd_ix rfl (atI_nat (getD_at0 (show k < (levs t v).length by omega))))) (e_op (ev_var rfl) (ev_var rfl) (opd_ix rfl (atI_nat (getD_at0 (show k < w.length by rw [hw.len]; exact hk2))))) opd_gt), fun e => ?_, fun e => (ev_var (d := .int (k : Nat)) rfl).imp fun _ z => ?_⟩
        · show (if w.getD (k : Int).toNat 0 < (levs t v).getD (k : Int).toNat 0 then some (Dt.int (k : Nat)) else none) = none
          rw [Int.toNat_natCast, if_neg (of_decide_eq_false e)]
        · show (if w.getD (k : Int).toNat 0 < (levs t v).getD (k : Int).toNat 0 then some (Dt.int (k : Nat)) else none) = _
          rw [Int.toNat_natCast, if_pos (of_decide_eq_true e), z]
      subst hd
      have hform : ∃ ns : List Int, ((rngD 0 t.length).filterMap fun d => match d with | .int i => if w.getD i.toNat 0 < (levs t v).getD i.toNat 0 then some (Dt.int i) else none | _ => none) = iL ns ∧ (w.getD o 0 ≤ (levs t v).getD o 0 → ns ≠ []) := by
        refine ⟨(List.range t.length).filterMap fun i => if w.getD i 0 < (levs t v).getD i 0 then some (i : Int) else none, ?_, fun hge => ?_⟩
        · unfold rngD
          rw [List.filterMap_map, show iL ((List.range t.length).filterMap fun i => if w.getD i 0 < (levs t v).getD i 0 then some (i : Int) else none) = List.map Dt.int ((List.range t.length).filterMap fun i => if w.getD i 0 < (levs t v).getD i 0 then some (i : Int) else none) from rfl, List.map_filterMap]
          refine fm_congr _ fun k => ?_
          show (if w.getD (0 + (k : Int)).toNat 0 < (levs t v).getD (0 + (k : Int)).toNat 0 then some (Dt.int (0 + (k : Int))) else none) = _
          rw [Int.zero_add, Int.toNat_natCast]
          split <;> rfl
        · obtain ⟨k, hk, hlt⟩ := ev_against ht hv hw (rsns_iff.mpr ⟨hev.len, hev.ok⟩) ho hge
          exact List.ne_nil_of_mem (List.mem_filterMap.mpr ⟨k, List.mem_range.mpr hk, if_pos hlt⟩)
      obtain ⟨ns, hns, hnn⟩ := hform
      rw [hns]
      refine Sv.le (v_if (c2 := 0) (c3 := 0) (t_and (t_test (e_op (e_op (ev_var rfl) (ev_var rfl) (opd_ix rfl (atI_nat (getD_at0 (show o < (levs t v).length by omega))))) (e_op (ev_var rfl) (ev_var rfl) (opd_ix rfl (atI_nat (getD_at0 how)))) opd_ge)) fun _ => t_test (e_op (ev_var rfl) (e_lst a_nil (by show 0 ≤ sizeLine; decide)) (opd_eqLI (ns := ns) (ms := [])))) (fun e => v_no ?_) fun _ => sv_next.imp (fun Δ2 h => ⟨_, _, _, _, _, h⟩) fun _ h => h) (by omega)
      rw [Bool.and_eq_true, decide_eq_true_eq, decide_eq_true_eq] at e
      exact hnn e.1 e.2
    obtain ⟨y6, y7, y8, y9, y12, rfl⟩ := h
    refine Sv.le (sv_acc (n := 6) (ce := 1) (c3 := 0) (js := [11]) (its := iL w) (fun d Δ => Δ.set 11 (some d)) (fun d x => ∃ i z : Int, d = .int i ∧ x = .int z ∧ ((i ≤ w.getD o 0 → z = i) ∧ (0 ≤ i → i ≤ TOPI → 0 ≤ z ∧ z ≤ TOPI))) (fun D _ Δ => ∃ y11, Δ = [some (.ptr a), some (tbl t), some (vec w), some (.tup [.int (o : Nat), .tup xs]), some (.int (o : Nat)), some (.tup xs), y6, y7, y8, y9, some (.ptr D), y11, y12]) (by show 10 < 13; decide) (fun D => i_tup (ev_var rfl)) (by rw [List.length_map, hw.len]; omega) (by decide) (fun D => ⟨_, rfl⟩) (fun D k d Δ' hk hΔ => ?_) (fun D k Δ' hΔ => ?_) fun D Δ' ys hΔ hA => ?_) (by omega)
    · obtain ⟨y11, rfl⟩ := hΔ
      obtain ⟨i, hi, rfl⟩ := List.mem_map.mp (List.mem_of_getElem? hk)
      have hil := hw.lev i hi
      have hil2 : i ≤ 1000000000000 := hil.2
      refine ⟨gd_name, rfl, Ev.le (e_if (c2 := 1) (c3 := 0) (t_test (e_op (ev_var rfl) (e_op (ev_var rfl) (ev_var rfl) (opd_ix rfl (atI_nat (getD_at0 how)))) opd_gt)) (fun e => ?_) fun e => (ev_var (d := .int i) rfl).imp fun _ e2 => ⟨i, i, rfl, e2, fun _ => rfl, fun h1 h2 => ⟨h1, h2⟩⟩) (by omega), ⟨_, rfl⟩⟩
      have hlt := of_decide_eq_true e
      refine Ev.le (ev_cb (Ps := fun ds => ∃ z : Int, ds = [.int (10 ^ (12 : Int).toNat), .int z] ∧ i ≤ z) (fun m σ G F R H mb e5 i5 s Q q => ea_cons (e_op ev_int ev_int (opd_pow ⟨by decide, by decide, by decide⟩)) (ea_cons (P1 := fun d => ∃ z : Int, d = .int z ∧ i ≤ z) (ev_op (P2 := fun d => ∃ q : Int, d = .int q ∧ 0 ≤ q) (ev_var rfl) (e_call (c2 := 1) (a_cons (ev_var rfl) (a_cons ev_int a_nil)) ⟨a, _, rfl, rfl⟩ ⟨a, _, rfl, by omega, by omega, rfl, fun q q0 _ => ⟨q, rfl, q0⟩⟩) fun x y e1 e2 => ?_) ea_nil) m σ G F R H mb e5 i5 s Q fun vs ds G' R' H' e' i' s' d' p' => q vs ds G' R' H' e' i' s' d' ?_) fun ds h => ?_) (by omega)
      · obtain ⟨q, rfl, q0⟩ := e2
        subst e1
        exact opd_add.imp fun _ e => ⟨_, e, by omega⟩
      · obtain ⟨_, _, rfl, rfl, _, _, rfl, ⟨z, rfl, hz⟩, rfl⟩ := p'
        exact ⟨z, rfl, hz⟩
      · obtain ⟨z, rfl, hz⟩ := h
        refine cd_min2.imp fun _ e => ⟨i, _, rfl, e, fun h => absurd h (by omega), fun h1 h2 => ?_⟩
        have e12 : (10 ^ (12 : Int).toNat : Int) = 1000000000000 := by decide
        rw [e12]
        refine ⟨by omega, ?_⟩
        show min 1000000000000 z ≤ 1000000000000
        omega
    · obtain ⟨y11, rfl⟩ := hΔ
      rfl
    · obtain ⟨y11, rfl⟩ := hΔ
      obtain ⟨w2, rfl, hw2, hws⟩ := made1 (S := fun i z => (i ≤ w.getD o 0 → z = i) ∧ (0 ≤ i → i ≤ TOPI → 0 ≤ z ∧ z ≤ TOPI)) hw (fun i z i0 i1 hs => hs.2 i0 i1) hA
      have hev2 := ev_more hw hev fun k hk hle => (hws k hk).1 hle
      refine Sv.le (sv_ret ((e_and (e_op (ev_var rfl) (ev_var rfl) (opd_notIn hev.ni)) fun _ => e_op (e_call (c2 := 0) (a_cons (ev_var rfl) (a_cons (e_cb (a_cons (ev_var rfl) a_nil) (cd_tuple rfl)) (a_cons (ev_var rfl) a_nil))) trivial ⟨n, t, w2, .tup [.int (o : Nat), .tup xs], rfl, ht, hw2, ev_val hev.ni, rfl⟩) ev_bl opd_isB).imp fun _ e => ?_)) (by omega)
      rw [e, ev_notin hev, ev_of hev2]
      exact hp
theorem ok__law_never_excluded {a0 : Addr} {fd0 : FuncData} (F0 : Fun K "_law_never_excluded" "_law_never_excluded" s__law_never_excluded a0 fd0) (C_is_evidence : Cal P w K mg base 5 "is_evidence" ["table", "wants", "value"] (sp_is_evidence K)) (C__law_one : Cal P w K mg base 2 "_law_one" ["_law_deck_here", "_law_some"] (sp__law_one K)) (C__law_next : Cal P w K mg base 1 "_law_next" ["_law_deck_here", "_law_many"] (sp__law_next K)) (z_range : mg "range" = none) (z_tuple : mg "tuple" = none) (z_len : mg "len" = none) : FnOk P w K mg base CX0 6 a0 fd0 ["_law_deck_here", "_law_table_here", "_law_wants_here"] (sp__law_never_excluded K) := by
  refine fn_mk F0 sc__law_never_excluded (fun ds c p h => ?_) (fun cdv A outer s H E hr => ⟨_, (pss_cons (by exact ps_for PassesOwn.never rfl (by exact pi_range1 (by rfl) z_range (by exact pa_cons pe_int pa_nil)) (by exact pg_name (i := 3) sc__law_never_excluded.nd rfl (.inl rfl)) (by exact pss_cons (by exact ps_set (i := 4) sc__law_never_excluded.nd rfl (.inl rfl) (by exact pe_callTy (tupleK K) (by rfl) z_tuple boot_tuple (by exact pa_cons (by exact pe_lc (own := [("_law_width", 5)]) (g := gName 5) (by rfl) sc__law_never_excluded.nd (by exact piT K (by exact pe_ix (ixs K) (pv 1) pe_int (fun _ _ => rfl))) (blkOk_by (own := [("_law_width", 5)]) (N := ["_law_deck_here", "_law_table_here", "_law_wants_here", "_law_time", "_law_reasons", "_law_width"]) (sc := defScope s__law_never_excluded) (by decide +kernel)) (fun _ _ _ _ _ => (by exact pg_name (i := 5) sc__law_never_excluded.nd rfl (.inl rfl))) (fun _ _ _ _ _ => pts_nil) (fun _ _ _ _ _ => (by exact pe_cal C__law_one (hr.mono (by decide)) (by rfl) (by exact pa_cons (pv 0) (by exact pa_cons (by exact pe_lst (by exact pa_cons pe_non (by exact pa_cons (by exact pe_cal C__law_next (hr.mono (by decide)) (by rfl) (by exact pa_cons (pv 0) (by exact pa_cons (by exact pe_callB (lenK K) (by rfl) z_len PySem.boot_len (by exact pa_cons (pv 1) pa_nil)) pa_nil))) pa_nil))) pa_nil))))) pa_nil))) (by exact pss_one (by exact ps_if (by exact pt_cmpR op_notBl (by exact pe_cal C_is_evidence (hr.mono (by decide)) (by rfl) (by exact pa_cons (pv 1) (by exact pa_cons (pv 2) (by exact pa_cons (by exact pe_tup (by exact pa_cons (by exact pe_cal C__law_next (hr.mono (by decide)) (by rfl) (by exact pa_cons (pv 0) (by exact pa_cons (by exact pe_callB (lenK K) (by rfl) z_len PySem.boot_len (by exact pa_cons (pv 1) pa_nil)) pa_nil))) (by exact pa_cons (pv 4) pa_nil))) pa_nil)))) pe_bl (nomark _)) (by exact pss_one (by exact ps_ret pe_bl)) pss_nil)))) (by exact pss_one (by exact ps_ret pe_bl))), fun ds I c R hI hS => ?_⟩)
  · obtain ⟨a, n, t, w, rfl, _⟩ := h
    rfl
  · obtain ⟨a, n, t, w, rfl, ht, hw, ⟨v, hv, hvs⟩, rfl, hp⟩ := hS
    obtain ⟨a', r', e1, rfl⟩ := hI
    cases e1
    have hne := ht.ne
    obtain ⟨r0, tr, rfl⟩ : ∃ r0 tr, t = r0 :: tr := by
      cases t with
      | nil => exact absurd rfl hne
      | cons a b => exact ⟨a, b, rfl⟩
    have h0 : r0.length = n := ht.row r0 List.mem_cons_self
    have n6 := ht.n6
    have t6 := ht.le
    have t1 : 1 ≤ (r0 :: tr).length := by rw [List.length_cons]; omega
    refine Sv.le (sv_seq (c2 := 0) (sv_for (n := 12) (cb := 13) (js := [3]) (N := fun _ => True) (i_rng (a_cons ev_int a_nil) (by decide) (by decide)) (fun its e => ?_) (fun d Δ => Δ.set 3 (some d)) (fun _ _ Δ => ∃ y3 y4 y5, Δ = [some (.ptr a), some (tbl (r0 :: tr)), some (vec w), y3, y4, y5]) (fun _ _ => ⟨_, _, _, rfl⟩) (fun its k d Δ' e hk hΔ => ?_) fun _ _ _ _ => trivial) fun Δ' _ => sv_ret (ev_bl.imp fun _ e => by rw [e]; exact hp)) (by omega)
    · subst e
      rw [rngD_len]
      decide
    obtain ⟨y3, y4, y5, rfl⟩ := hΔ
    refine ⟨gd_name, ?_⟩
    refine Sv.le (v_set (c2 := 1) (P := fun d => ∃ rs : List Dt, d = .tup rs ∧ ∀ x ∈ rs, isNI x = true) (ev_cb (Ps := fun ds => ∃ rs : List Dt, ds = [.lst rs] ∧ ∀ x ∈ rs, isNI x = true) (fun m σ G F R H mb e i s Q q => ea_cons (e_draw (ce := 2) (n := 6) (js := [5]) (fun d Δ => Δ.set 5 (some d)) (fun x => isNI x = true) (i_tup (e_op (ev_var rfl) ev_int (opd_ix (d := vec r0) rfl (atI_nat (j := 0) rfl)))) (by rw [List.length_map]; omega) (by decide) (fun j h => h) fun d hd => ⟨gd_name, ev_call (c1 := 1) (c2 := 1) (Ps := fun ds => ∃ xs : List Dt, ds = [.ptr a, .lst xs] ∧ xs.length = 2 ∧ ∀ x ∈ xs, isNI x = true) (fun m σ G F R H mb e i s Q q => ea_cons (c1 := 0) (c2 := 1) (ev_var (d := .ptr a) rfl) (ea_cons (c1 := 1) (c2 := 0) (P1 := fun d => ∃ xs : List Dt, d = .lst xs ∧ xs.length = 2 ∧ ∀ x ∈ xs, isNI x = true) (ev_lst (p_cons (ev_non.imp fun _ e => by rw [e]; rfl) (p_cons (e_call (c2 := 1) (a_cons (ev_var rfl) (a_cons (e_cb (a_cons (ev_var rfl) a_nil) (cd_len rfl)) a_nil)) ⟨a, _, rfl, rfl⟩ ⟨a, _, rfl, by rw [List.length_map]; omega, by rw [List.length_map]; omega, rfl, fun i _ _ => rfl⟩) p_nil)) fun ds h => ⟨by rw [h.1]; decide, ds, rfl, h.1, h.2⟩) ea_nil) m σ G F R H mb e i s Q fun vs ds G' R' H' e' i' s' d' p' => q vs ds G' R' H' e' i' s' d' ?_) fun ds h => ?_⟩) ea_nil m σ G F R H mb e i s Q fun vs ds G' R' H' e' i' s' d' p' => q vs ds G' R' H' e' i' s' d' ?_) fun ds h => ?_) fun d hd => ?_) (by omega)
    · obtain ⟨_, _, rfl, rfl, _, _, rfl, ⟨xs, rfl, hl, hx⟩, rfl⟩ := p'
      exact ⟨xs, rfl, hl, hx⟩
    · obtain ⟨xs, rfl, hl, hx⟩ := h
      exact ⟨⟨a, _, rfl, rfl⟩, a, xs, rfl, fun z => (by rw [z] at hl; cases hl), by omega, rfl, hx⟩
    · obtain ⟨_, _, rfl, ⟨xs, rfl, _, hx⟩, rfl⟩ := p'
      exact ⟨xs, rfl, hx⟩
    · obtain ⟨xs, rfl, hx⟩ := h
      exact (cd_tuple rfl).imp fun d e => ⟨xs, e, hx⟩
    obtain ⟨rs, rfl, hrs⟩ := hd
    refine Sv.le (sv_if (c2 := 0) (c3 := 0) (B := (· = false)) (et_test (P := (· = .bl false)) (ev_op (P1 := (· = .bl false)) (P2 := (· = .bl false)) (ev_call (c1 := 1) (c2 := 0) (Ps := fun ds => ∃ o : Nat, ds = [tbl (r0 :: tr), vec w, .tup [.int (o : Nat), .tup rs]]) (fun m σ G F R H mb e i s Q q => ea_cons (c1 := 0) (c2 := 1) (ev_var (d := tbl (r0 :: tr)) rfl) (ea_cons (c1 := 0) (c2 := 1) (ev_var (d := vec w) rfl) (ea_cons (c1 := 1) (c2 := 0) (P1 := fun d => ∃ o : Nat, d = .tup [.int (o : Nat), .tup rs]) (ev_tup (Ps := fun ds => ∃ o : Nat, ds = [.int (o : Nat), .tup rs]) (fun m σ G F R H mb e i s Q q => ea_cons (c1 := 1) (c2 := 0) (P1 := fun d => ∃ o : Nat, d = .int (o : Nat)) (e_call (c2 := 1) (a_cons (ev_var rfl) (a_cons (e_cb (a_cons (ev_var rfl) a_nil) (cd_len rfl)) a_nil)) ⟨a, _, rfl, rfl⟩ ⟨a, _, rfl, by rw [List.length_map]; omega, by rw [List.length_map]; omega, rfl, fun i i0 _ => ⟨i.toNat, by rw [Int.toNat_of_nonneg i0]⟩⟩) (ea_cons (ev_var (d := .tup rs) rfl) ea_nil) m σ G F R H mb e i s Q fun vs ds G' R' H' e' i' s' d' p' => q vs ds G' R' H' e' i' s' d' ?_) fun ds h => ?_) ea_nil)) m σ G F R H mb e i s Q fun vs ds G' R' H' e' i' s' d' p' => q vs ds G' R' H' e' i' s' d' ?_) fun ds h => ?_) ev_bl fun x y e1 e2 => ?_) fun d e => ⟨false, e, rfl⟩) (fun e => (by cases e)) fun _ => sv_next.imp (fun Δ2 h => ⟨_, _, _, h⟩) fun _ h => h) (by omega)
    · obtain ⟨_, _, rfl, ⟨o, rfl⟩, _, _, rfl, rfl, rfl⟩ := p'
      exact ⟨o, rfl⟩
    · obtain ⟨o, rfl⟩ := h
      exact ⟨by show 2 ≤ sizeLine; decide, o, rfl⟩
    · obtain ⟨_, _, rfl, rfl, _, _, rfl, rfl, _, _, rfl, ⟨o, rfl⟩, rfl⟩ := p'
      exact ⟨o, rfl⟩
    · obtain ⟨o, rfl⟩ := h
      exact ⟨trivial, n, r0 :: tr, w, _, rfl, ht, hw, ev_val hrs, by rw [sol_no_ev ht hv hw hvs]⟩
    · subst e1 e2
      exact opd_notB.imp fun _ e => e
theorem ok_law {a0 : Addr} {fd0 : FuncData} (F0 : Fun K "law" "law" s_law a0 fd0) (C__law_deck : Cal P w K mg base 1 "_law_deck" ["_law_script"] (sp__law_deck K)) (C__law_great : Cal P w K mg base 2 "_law_great" ["_law_deck_here"] (sp__law_great K)) (C__law_table : Cal P w K mg base 4 "_law_table" ["_law_deck_here", "_law_great_here", "_law_outlets", "_law_inlets"] (sp__law_table K)) (C__law_wants : Cal P w K mg base 4 "_law_wants" ["_law_deck_here", "_law_table_here", "_law_great_here"] (sp__law_wants K)) (C_certificate : Cal P w K mg base 7 "certificate" ["table", "wants"] (sp_certificate K)) (C_is_evidence : Cal P w K mg base 5 "is_evidence" ["table", "wants", "value"] (sp_is_evidence K)) (C__law_excluded : Cal P w K mg base 7 "_law_excluded" ["_law_deck_here", "_law_table_here", "_law_wants_here", "_law_told"] (sp__law_excluded K)) (C_is_solution : Cal P w K mg base 6 "is_solution" ["table", "wants", "value"] (sp_is_solution K)) (C__law_never_excluded : Cal P w K mg base 6 "_law_never_excluded" ["_law_deck_here", "_law_table_here", "_law_wants_here"] (sp__law_never_excluded K)) (z_range : mg "range" = none) : FnOk P w K mg base CX0 8 a0 fd0 ["_law_script"] (sp_law K) := by
  refine F0.ok sc_law (fun vs H Q E h => ?_) (fun cdv A outer s H vs Q E hr h => ?_)
  · obtain ⟨a, ns, rfl, _⟩ := h
    rfl
  · obtain ⟨s0, ns, rfl, hS, hn, hO, hq⟩ := h
    refine ⟨_, (pss_cons (by exact ps_set (i := 1) sc_law.nd rfl (.inl rfl) (by exact pe_cal C__law_deck (hr.mono (by decide)) (by rfl) (by exact pa_cons (pv 0) pa_nil))) (by exact pss_cons (by exact ps_for PassesOwn.never rfl (by exact pi_range1 (by rfl) z_range (by exact pa_cons pe_int pa_nil)) (by exact pg_name (i := 2) sc_law.nd rfl (.inl rfl)) (by exact pss_cons (by exact ps_set (i := 3) sc_law.nd rfl (.inl rfl) (by exact pe_cal C__law_great (hr.mono (by decide)) (by rfl) (by exact pa_cons (pv 1) pa_nil))) (by exact pss_cons (by exact ps_set (i := 4) sc_law.nd rfl (.inl rfl) (by exact pe_cal C__law_table (hr.mono (by decide)) (by rfl) (by exact pa_cons (pv 1) (by exact pa_cons (pv 3) (by exact pa_cons pe_int (by exact pa_cons pe_int pa_nil)))))) (by exact pss_cons (by exact ps_set (i := 5) sc_law.nd rfl (.inl rfl) (by exact pe_cal C__law_wants (hr.mono (by decide)) (by rfl) (by exact pa_cons (pv 1) (by exact pa_cons (pv 4) (by exact pa_cons (pv 3) pa_nil))))) (by exact pss_cons (by exact ps_asg (by exact pe_cal C_certificate (hr.mono (by decide)) (by rfl) (by exact pa_cons (pv 4) (by exact pa_cons (pv 5) pa_nil))) (by exact pg_tup (by rfl) (by exact pgs_cons (by exact pg_name (i := 6) sc_law.nd rfl (.inl rfl)) (by exact pgs_cons (by exact pg_name (i := 7) sc_law.nd rfl (.inl rfl)) pgs_nil)))) (by exact pss_one (by exact ps_if (by exact pt_cmpR op_eq (pv 6) pe_str (nomark _)) (by exact pss_one (by exact ps_if (by exact PW.pt (by exact pw_or (by exact pt_cmpR op_notBl (by exact pe_cal C_is_evidence (hr.mono (by decide)) (by rfl) (by exact pa_cons (pv 4) (by exact pa_cons (pv 5) (by exact pa_cons (pv 7) pa_nil)))) pe_bl (nomark _)) (by exact pw_or1 (by exact pt_not (by exact pt_val (by exact pe_cal C__law_excluded (hr.mono (by decide)) (by rfl) (by exact pa_cons (pv 1) (by exact pa_cons (pv 4) (by exact pa_cons (pv 5) (by exact pa_cons (pv 7) pa_nil)))))))))) (by exact pss_one (by exact ps_ret pe_bl)) pss_nil)) (by exact pss_one (by exact ps_if (by exact PW.pt (by exact pw_or (by exact pt_cmpR op_notBl (by exact pe_cal C_is_solution (hr.mono (by decide)) (by rfl) (by exact pa_cons (pv 4) (by exact pa_cons (pv 5) (by exact pa_cons (pv 7) pa_nil)))) pe_bl (nomark _)) (by exact pw_or1 (by exact pt_not (by exact pt_val (by exact pe_cal C__law_never_excluded (hr.mono (by decide)) (by rfl) (by exact pa_cons (pv 1) (by exact pa_cons (pv 4) (by exact pa_cons (pv 5) pa_nil))))))))) (by exact pss_one (by exact ps_ret pe_bl)) pss_nil))))))))) (by exact pss_one (by exact ps_ret pe_bl)))), ?_⟩
    refine law_run (c := 3360) hS hn hO hq (by decide) (by decide) fun a => ?_
    refine Sv.le (sv_seq (c2 := 0) (sv_for (n := 8) (cb := 420) (js := [2]) (N := fun _ => True) (i_rng (a_cons ev_int a_nil) (by decide) (by decide)) (fun its e => ?_) (fun d Δ => Δ.set 2 (some d)) (fun _ _ Δ => ∃ y0 y2 y3 y4 y5 y6 y7, Δ = [y0, some (.ptr a), y2, y3, y4, y5, y6, y7]) (fun _ _ => ⟨_, _, _, _, _, _, _, rfl⟩) (fun its k d Δ' e hk hΔ => ?_) fun _ _ _ _ => trivial) fun Δ' _ => sv_ret (ev_bl.imp fun _ e => e)) (by omega)
    · subst e
      rw [rngD_len]
      decide
    obtain ⟨y0, y2, y3, y4, y5, y6, y7, rfl⟩ := hΔ
    refine ⟨gd_name, ?_⟩
    refine Sv.le (v_set (c2 := 419) (P := fun d => ∃ g : Int, d = .int g ∧ 1 ≤ g ∧ g ≤ TOPI) (e_call (c2 := 1) (a_cons (ev_var rfl) a_nil) ⟨a, _, rfl, rfl⟩ ⟨a, rfl, rfl, fun g h1 h2 => ⟨g, rfl, h1, h2⟩⟩) fun d hd => ?_) (by omega)
    obtain ⟨g, rfl, g1, g2⟩ := hd
    refine Sv.le (v_set (c2 := 309) (P := fun d => ∃ n t, d = tbl t ∧ isT n t) (e_call (c2 := 110) (a_cons (ev_var rfl) (a_cons (ev_var rfl) (a_cons ev_int (a_cons ev_int a_nil)))) ⟨a, _, rfl, rfl⟩ ⟨a, g, 6, 6, rfl, g1, g2, by decide, by decide, by decide, by decide, rfl, fun n t ht => ⟨n, t, rfl, ht⟩⟩) fun d hd => ?_) (by omega)
    obtain ⟨n, t, rfl, ht⟩ := hd
    refine Sv.le (v_set (c2 := 268) (P := fun d => ∃ w, d = vec w ∧ isV t.length w) (e_call (c2 := 41) (a_cons (ev_var rfl) (a_cons (ev_var rfl) (a_cons (ev_var rfl) a_nil))) ⟨a, _, rfl, rfl⟩ ⟨a, n, t, g, rfl, ht, g1, g2, rfl, fun w hw => ⟨w, rfl, hw⟩⟩) fun d hd => ?_) (by omega)
    obtain ⟨w, rfl, hw⟩ := hd
    refine Sv.le (sv_seq (c2 := 268) (sv_asgP (P := fun d => (d = .tup [.str "setting", vec (upper t w n)] ∧ levs t (upper t w n) = w) ∨ ∃ o xs, d = .tup [.str "evidence", .tup [.int (o : Nat), .tup xs]] ∧ isEv n t w o xs) (N := fun Δ => (Δ = [y0, some (.ptr a), some d, some (.int g), some (tbl t), some (vec w), some (.str "setting"), some (vec (upper t w n))] ∧ levs t (upper t w n) = w) ∨ ∃ o xs, Δ = [y0, some (.ptr a), some d, some (.int g), some (tbl t), some (vec w), some (.str "evidence"), some (.tup [.int (o : Nat), .tup xs])] ∧ isEv n t w o xs) (e_call (c2 := 0) (a_cons (ev_var rfl) (a_cons (ev_var rfl) a_nil)) trivial ⟨n, t, w, rfl, ht, hw, fun h => .inl ⟨rfl, h⟩, fun o xs h => .inr ⟨o, xs, rfl, h⟩⟩) fun d h => ?_) fun Δ2 h => ?_) (by omega)
    · rcases h with ⟨rfl, h⟩ | ⟨o, xs, rfl, h⟩
      · exact ⟨_, _, rfl, .inl ⟨rfl, h⟩⟩
      · exact ⟨_, _, rfl, .inr ⟨o, xs, rfl, h⟩⟩
    rcases h with ⟨rfl, hs⟩ | ⟨o, xs, rfl, hev⟩
    · have hU := upper_isV ht hw
      refine Sv.le (v_if (c2 := 0) (c3 := 156) (t_test (e_op (ev_var rfl) ev_str (opd_eq rfl))) (fun e => v_no ?_) fun _ => Sv.le (v_if (c2 := 0) (c3 := 0) (t_or (t_test (e_op (e_call (c2 := 0) (a_cons (ev_var rfl) (a_cons (ev_var rfl) (a_cons (ev_var rfl) a_nil))) trivial ⟨n, t, w, vec (upper t w n), rfl, ht, hw, val_vec _, rfl⟩) ev_bl opd_notB)) fun _ => t_not (t_B (e_call (c2 := 156) (a_cons (ev_var rfl) (a_cons (ev_var rfl) (a_cons (ev_var rfl) a_nil))) ⟨a, _, rfl, rfl⟩ ⟨a, n, t, w, rfl, ht, hw, ⟨_, hU, hs⟩, rfl, rfl⟩))) (fun e => v_no ?_) fun _ => sv_next.imp (fun Δ2 h => ⟨_, _, _, _, _, _, _, h⟩) fun _ h => h) (by omega)) (by omega)
      · exact absurd e (by decide)
      · rw [sol_true hU hs] at e
        cases e
    · refine Sv.le (v_if (c2 := 90) (c3 := 0) (t_test (e_op (ev_var rfl) ev_str (opd_eq rfl))) (fun _ => Sv.le (v_if (c2 := 0) (c3 := 0) (t_or (t_test (e_op (e_call (c2 := 0) (a_cons (ev_var rfl) (a_cons (ev_var rfl) (a_cons (ev_var rfl) a_nil))) trivial ⟨n, t, w, .tup [.int (o : Nat), .tup xs], rfl, ht, hw, ev_val hev.ni, rfl⟩) ev_bl opd_notB)) fun _ => t_not (t_B (e_call (c2 := 90) (a_cons (ev_var rfl) (a_cons (ev_var rfl) (a_cons (ev_var rfl) (a_cons (ev_var rfl) a_nil)))) ⟨a, _, rfl, rfl⟩ ⟨a, n, t, w, o, xs, rfl, ht, hw, hev, rfl, rfl⟩))) (fun e => v_no ?_) fun _ => sv_next.imp (fun Δ2 h => ⟨_, _, _, _, _, _, _, h⟩) fun _ h => h) (by omega)) fun e => v_no ?_) (by omega)
      · rw [ev_of hev] at e
        cases e
      · exact absurd e (by decide)
end
end KK
set_option Elab.async false
set_option linter.all false
set_option maxRecDepth 100000
set_option maxHeartbeats 4000000
namespace KK
open PySem PySem.Spec PyProof.Rows L2 Fw
open Evl (Ex)
theorem all_mk {l : PySem.W.OpenLaw} {w : World} {K : PySem.W.Frag} {h : Heap} {mg : Str → Option Value} {fa f1 f2 f3 f4 f5 f6 f7 f8 f9 f10 f11 f12 f13 f14 f15 f16 f17 f18 f19 f20 f21 f22 f23 f24 f25 f26 f27 f28 f29 f30 f31 f32 : Addr} (X : K.In h) (G : h.Ns mainGlobals mg) (hfa : mg "law" = some (.ref fa))
    {od1 an1 od2 an2 od3 an3 od4 an4 od5 an5 od6 an6 od7 an7 od8 an8 od9 an9 od10 an10 od11 an11 od12 an12 od13 an13 od14 an14 od15 an15 od16 an16 od17 an17 od18 an18 od19 an19 od20 an20 od21 an21 od22 an22 od23 an23 od24 an24 od25 an25 od26 an26 od27 an27 od28 an28 od29 an29 od30 an30 od31 an31 od32 an32 : Option Addr} {sl1 sl2 sl3 sl4 sl5 sl6 sl7 sl8 sl9 sl10 sl11 sl12 sl13 sl14 sl15 sl16 sl17 sl18 sl19 sl20 sl21 sl22 sl23 sl24 sl25 sl26 sl27 sl28 sl29 sl30 sl31 sl32 : Array (Option Value)} {oc1 kV1 dc1 pm1 cd1 ct1 oc2 kV2 dc2 pm2 cd2 ct2 oc3 kV3 dc3 pm3 cd3 ct3 oc4 kV4 dc4 pm4 cd4 ct4 oc5 kV5 dc5 pm5 cd5 ct5 oc6 kV6 dc6 pm6 cd6 ct6 oc7 kV7 dc7 pm7 cd7 ct7 oc8 kV8 dc8 pm8 cd8 ct8 oc9 kV9 dc9 pm9 cd9 ct9 oc10 kV10 dc10 pm10 cd10 ct10 oc11 kV11 dc11 pm11 cd11 ct11 oc12 kV12 dc12 pm12 cd12 ct12 oc13 kV13 dc13 pm13 cd13 ct13 oc14 kV14 dc14 pm14 cd14 ct14 oc15 kV15 dc15 pm15 cd15 ct15 oc16 kV16 dc16 pm16 cd16 ct16 oc17 kV17 dc17 pm17 cd17 ct17 oc18 kV18 dc18 pm18 cd18 ct18 oc19 kV19 dc19 pm19 cd19 ct19 oc20 kV20 dc20 pm20 cd20 ct20 oc21 kV21 dc21 pm21 cd21 ct21 oc22 kV22 dc22 pm22 cd22 ct22 oc23 kV23 dc23 pm23 cd23 ct23 oc24 kV24 dc24 pm24 cd24 ct24 oc25 kV25 dc25 pm25 cd25 ct25 oc26 kV26 dc26 pm26 cd26 ct26 oc27 kV27 dc27 pm27 cd27 ct27 oc28 kV28 dc28 pm28 cd28 ct28 oc29 kV29 dc29 pm29 cd29 ct29 oc30 kV30 dc30 pm30 cd30 ct30 oc31 kV31 dc31 pm31 cd31 ct31 oc32 kV32 dc32 pm32 cd32 ct32 : Value} {t0 : Tok}
    (a1 : PySem.W.nsIn K mainGlobals "is_integer" = some (some (.ref f1))) (l1 : K.lookup f1 = some ⟨oc1, od1, .func (PySem.W.fnOf "is_integer" "is_integer" (defArgs s_is_integer) (defBody s_is_integer) (defScope s_is_integer) .none kV1 dc1 pm1 an1 cd1 ct1), sl1⟩) (c1 : PySem.W.codeIn K cd1 "is_integer" = true) (k1 : PySem.W.keepIn K (.ref f1) = true)
    (a2 : PySem.W.nsIn K mainGlobals "is_level" = some (some (.ref f2))) (l2 : K.lookup f2 = some ⟨oc2, od2, .func (PySem.W.fnOf "is_level" "is_level" (defArgs s_is_level) (defBody s_is_level) (defScope s_is_level) .none kV2 dc2 pm2 an2 cd2 ct2), sl2⟩) (c2 : PySem.W.codeIn K cd2 "is_level" = true) (k2 : PySem.W.keepIn K (.ref f2) = true)
    (a3 : PySem.W.nsIn K mainGlobals "is_number_below" = some (some (.ref f3))) (l3 : K.lookup f3 = some ⟨oc3, od3, .func (PySem.W.fnOf "is_number_below" "is_number_below" (defArgs s_is_number_below) (defBody s_is_number_below) (defScope s_is_number_below) .none kV3 dc3 pm3 an3 cd3 ct3), sl3⟩) (c3 : PySem.W.codeIn K cd3 "is_number_below" = true) (k3 : PySem.W.keepIn K (.ref f3) = true)
    (a4 : PySem.W.nsIn K mainGlobals "is_tuple_of" = some (some (.ref f4))) (l4 : K.lookup f4 = some ⟨oc4, od4, .func (PySem.W.fnOf "is_tuple_of" "is_tuple_of" (defArgs s_is_tuple_of) (defBody s_is_tuple_of) (defScope s_is_tuple_of) .none kV4 dc4 pm4 an4 cd4 ct4), sl4⟩) (c4 : PySem.W.codeIn K cd4 "is_tuple_of" = true) (k4 : PySem.W.keepIn K (.ref f4) = true)
    (a5 : PySem.W.nsIn K mainGlobals "are_levels" = some (some (.ref f5))) (l5 : K.lookup f5 = some ⟨oc5, od5, .func (PySem.W.fnOf "are_levels" "are_levels" (defArgs s_are_levels) (defBody s_are_levels) (defScope s_are_levels) .none kV5 dc5 pm5 an5 cd5 ct5), sl5⟩) (c5 : PySem.W.codeIn K cd5 "are_levels" = true) (k5 : PySem.W.keepIn K (.ref f5) = true)
    (a6 : PySem.W.nsIn K mainGlobals "is_setting" = some (some (.ref f6))) (l6 : K.lookup f6 = some ⟨oc6, od6, .func (PySem.W.fnOf "is_setting" "is_setting" (defArgs s_is_setting) (defBody s_is_setting) (defScope s_is_setting) .none kV6 dc6 pm6 an6 cd6 ct6), sl6⟩) (c6 : PySem.W.codeIn K cd6 "is_setting" = true) (k6 : PySem.W.keepIn K (.ref f6) = true)
    (a7 : PySem.W.nsIn K mainGlobals "are_wants" = some (some (.ref f7))) (l7 : K.lookup f7 = some ⟨oc7, od7, .func (PySem.W.fnOf "are_wants" "are_wants" (defArgs s_are_wants) (defBody s_are_wants) (defScope s_are_wants) .none kV7 dc7 pm7 an7 cd7 ct7), sl7⟩) (c7 : PySem.W.codeIn K cd7 "are_wants" = true) (k7 : PySem.W.keepIn K (.ref f7) = true)
    (a8 : PySem.W.nsIn K mainGlobals "level_of" = some (some (.ref f8))) (l8 : K.lookup f8 = some ⟨oc8, od8, .func (PySem.W.fnOf "level_of" "level_of" (defArgs s_level_of) (defBody s_level_of) (defScope s_level_of) .none kV8 dc8 pm8 an8 cd8 ct8), sl8⟩) (c8 : PySem.W.codeIn K cd8 "level_of" = true) (k8 : PySem.W.keepIn K (.ref f8) = true)
    (a9 : PySem.W.nsIn K mainGlobals "levels_of" = some (some (.ref f9))) (l9 : K.lookup f9 = some ⟨oc9, od9, .func (PySem.W.fnOf "levels_of" "levels_of" (defArgs s_levels_of) (defBody s_levels_of) (defScope s_levels_of) .none kV9 dc9 pm9 an9 cd9 ct9), sl9⟩) (c9 : PySem.W.codeIn K cd9 "levels_of" = true) (k9 : PySem.W.keepIn K (.ref f9) = true)
    (a10 : PySem.W.nsIn K mainGlobals "upper_level" = some (some (.ref f10))) (l10 : K.lookup f10 = some ⟨oc10, od10, .func (PySem.W.fnOf "upper_level" "upper_level" (defArgs s_upper_level) (defBody s_upper_level) (defScope s_upper_level) .none kV10 dc10 pm10 an10 cd10 ct10), sl10⟩) (c10 : PySem.W.codeIn K cd10 "upper_level" = true) (k10 : PySem.W.keepIn K (.ref f10) = true)
    (a11 : PySem.W.nsIn K mainGlobals "upper_setting" = some (some (.ref f11))) (l11 : K.lookup f11 = some ⟨oc11, od11, .func (PySem.W.fnOf "upper_setting" "upper_setting" (defArgs s_upper_setting) (defBody s_upper_setting) (defScope s_upper_setting) .none kV11 dc11 pm11 an11 cd11 ct11), sl11⟩) (c11 : PySem.W.codeIn K cd11 "upper_setting" = true) (k11 : PySem.W.keepIn K (.ref f11) = true)
    (a12 : PySem.W.nsIn K mainGlobals "is_solution" = some (some (.ref f12))) (l12 : K.lookup f12 = some ⟨oc12, od12, .func (PySem.W.fnOf "is_solution" "is_solution" (defArgs s_is_solution) (defBody s_is_solution) (defScope s_is_solution) .none kV12 dc12 pm12 an12 cd12 ct12), sl12⟩) (c12 : PySem.W.codeIn K cd12 "is_solution" = true) (k12 : PySem.W.keepIn K (.ref f12) = true)
    (a13 : PySem.W.nsIn K mainGlobals "is_reason" = some (some (.ref f13))) (l13 : K.lookup f13 = some ⟨oc13, od13, .func (PySem.W.fnOf "is_reason" "is_reason" (defArgs s_is_reason) (defBody s_is_reason) (defScope s_is_reason) .none kV13 dc13 pm13 an13 cd13 ct13), sl13⟩) (c13 : PySem.W.codeIn K cd13 "is_reason" = true) (k13 : PySem.W.keepIn K (.ref f13) = true)
    (a14 : PySem.W.nsIn K mainGlobals "are_reasons" = some (some (.ref f14))) (l14 : K.lookup f14 = some ⟨oc14, od14, .func (PySem.W.fnOf "are_reasons" "are_reasons" (defArgs s_are_reasons) (defBody s_are_reasons) (defScope s_are_reasons) .none kV14 dc14 pm14 an14 cd14 ct14), sl14⟩) (c14 : PySem.W.codeIn K cd14 "are_reasons" = true) (k14 : PySem.W.keepIn K (.ref f14) = true)
    (a15 : PySem.W.nsIn K mainGlobals "is_evidence" = some (some (.ref f15))) (l15 : K.lookup f15 = some ⟨oc15, od15, .func (PySem.W.fnOf "is_evidence" "is_evidence" (defArgs s_is_evidence) (defBody s_is_evidence) (defScope s_is_evidence) .none kV15 dc15 pm15 an15 cd15 ct15), sl15⟩) (c15 : PySem.W.codeIn K cd15 "is_evidence" = true) (k15 : PySem.W.keepIn K (.ref f15) = true)
    (a16 : PySem.W.nsIn K mainGlobals "reason_of" = some (some (.ref f16))) (l16 : K.lookup f16 = some ⟨oc16, od16, .func (PySem.W.fnOf "reason_of" "reason_of" (defArgs s_reason_of) (defBody s_reason_of) (defScope s_reason_of) .none kV16 dc16 pm16 an16 cd16 ct16), sl16⟩) (c16 : PySem.W.codeIn K cd16 "reason_of" = true) (k16 : PySem.W.keepIn K (.ref f16) = true)
    (a17 : PySem.W.nsIn K mainGlobals "reasons_of" = some (some (.ref f17))) (l17 : K.lookup f17 = some ⟨oc17, od17, .func (PySem.W.fnOf "reasons_of" "reasons_of" (defArgs s_reasons_of) (defBody s_reasons_of) (defScope s_reasons_of) .none kV17 dc17 pm17 an17 cd17 ct17), sl17⟩) (c17 : PySem.W.codeIn K cd17 "reasons_of" = true) (k17 : PySem.W.keepIn K (.ref f17) = true)
    (a18 : PySem.W.nsIn K mainGlobals "find_evidence" = some (some (.ref f18))) (l18 : K.lookup f18 = some ⟨oc18, od18, .func (PySem.W.fnOf "find_evidence" "find_evidence" (defArgs s_find_evidence) (defBody s_find_evidence) (defScope s_find_evidence) .none kV18 dc18 pm18 an18 cd18 ct18), sl18⟩) (c18 : PySem.W.codeIn K cd18 "find_evidence" = true) (k18 : PySem.W.keepIn K (.ref f18) = true)
    (a19 : PySem.W.nsIn K mainGlobals "certificate" = some (some (.ref f19))) (l19 : K.lookup f19 = some ⟨oc19, od19, .func (PySem.W.fnOf "certificate" "certificate" (defArgs s_certificate) (defBody s_certificate) (defScope s_certificate) .none kV19 dc19 pm19 an19 cd19 ct19), sl19⟩) (c19 : PySem.W.codeIn K cd19 "certificate" = true) (k19 : PySem.W.keepIn K (.ref f19) = true)
    (a20 : PySem.W.nsIn K mainGlobals "_law_deck" = some (some (.ref f20))) (l20 : K.lookup f20 = some ⟨oc20, od20, .func (PySem.W.fnOf "_law_deck" "_law_deck" (defArgs s__law_deck) (defBody s__law_deck) (defScope s__law_deck) .none kV20 dc20 pm20 an20 cd20 ct20), sl20⟩) (c20 : PySem.W.codeIn K cd20 "_law_deck" = true) (k20 : PySem.W.keepIn K (.ref f20) = true)
    (a21 : PySem.W.nsIn K mainGlobals "_law_next" = some (some (.ref f21))) (l21 : K.lookup f21 = some ⟨oc21, od21, .func (PySem.W.fnOf "_law_next" "_law_next" (defArgs s__law_next) (defBody s__law_next) (defScope s__law_next) .none kV21 dc21 pm21 an21 cd21 ct21), sl21⟩) (c21 : PySem.W.codeIn K cd21 "_law_next" = true) (k21 : PySem.W.keepIn K (.ref f21) = true)
    (a22 : PySem.W.nsIn K mainGlobals "_law_one" = some (some (.ref f22))) (l22 : K.lookup f22 = some ⟨oc22, od22, .func (PySem.W.fnOf "_law_one" "_law_one" (defArgs s__law_one) (defBody s__law_one) (defScope s__law_one) .none kV22 dc22 pm22 an22 cd22 ct22), sl22⟩) (c22 : PySem.W.codeIn K cd22 "_law_one" = true) (k22 : PySem.W.keepIn K (.ref f22) = true)
    (a23 : PySem.W.nsIn K mainGlobals "_law_great" = some (some (.ref f23))) (l23 : K.lookup f23 = some ⟨oc23, od23, .func (PySem.W.fnOf "_law_great" "_law_great" (defArgs s__law_great) (defBody s__law_great) (defScope s__law_great) .none kV23 dc23 pm23 an23 cd23 ct23), sl23⟩) (c23 : PySem.W.codeIn K cd23 "_law_great" = true) (k23 : PySem.W.keepIn K (.ref f23) = true)
    (a24 : PySem.W.nsIn K mainGlobals "_law_level" = some (some (.ref f24))) (l24 : K.lookup f24 = some ⟨oc24, od24, .func (PySem.W.fnOf "_law_level" "_law_level" (defArgs s__law_level) (defBody s__law_level) (defScope s__law_level) .none kV24 dc24 pm24 an24 cd24 ct24), sl24⟩) (c24 : PySem.W.codeIn K cd24 "_law_level" = true) (k24 : PySem.W.keepIn K (.ref f24) = true)
    (a25 : PySem.W.nsIn K mainGlobals "_law_row" = some (some (.ref f25))) (l25 : K.lookup f25 = some ⟨oc25, od25, .func (PySem.W.fnOf "_law_row" "_law_row" (defArgs s__law_row) (defBody s__law_row) (defScope s__law_row) .none kV25 dc25 pm25 an25 cd25 ct25), sl25⟩) (c25 : PySem.W.codeIn K cd25 "_law_row" = true) (k25 : PySem.W.keepIn K (.ref f25) = true)
    (a26 : PySem.W.nsIn K mainGlobals "_law_table" = some (some (.ref f26))) (l26 : K.lookup f26 = some ⟨oc26, od26, .func (PySem.W.fnOf "_law_table" "_law_table" (defArgs s__law_table) (defBody s__law_table) (defScope s__law_table) .none kV26 dc26 pm26 an26 cd26 ct26), sl26⟩) (c26 : PySem.W.codeIn K cd26 "_law_table" = true) (k26 : PySem.W.keepIn K (.ref f26) = true)
    (a27 : PySem.W.nsIn K mainGlobals "_law_levels" = some (some (.ref f27))) (l27 : K.lookup f27 = some ⟨oc27, od27, .func (PySem.W.fnOf "_law_levels" "_law_levels" (defArgs s__law_levels) (defBody s__law_levels) (defScope s__law_levels) .none kV27 dc27 pm27 an27 cd27 ct27), sl27⟩) (c27 : PySem.W.codeIn K cd27 "_law_levels" = true) (k27 : PySem.W.keepIn K (.ref f27) = true)
    (a28 : PySem.W.nsIn K mainGlobals "_law_wants" = some (some (.ref f28))) (l28 : K.lookup f28 = some ⟨oc28, od28, .func (PySem.W.fnOf "_law_wants" "_law_wants" (defArgs s__law_wants) (defBody s__law_wants) (defScope s__law_wants) .none kV28 dc28 pm28 an28 cd28 ct28), sl28⟩) (c28 : PySem.W.codeIn K cd28 "_law_wants" = true) (k28 : PySem.W.keepIn K (.ref f28) = true)
    (a29 : PySem.W.nsIn K mainGlobals "_law_drawn" = some (some (.ref f29))) (l29 : K.lookup f29 = some ⟨oc29, od29, .func (PySem.W.fnOf "_law_drawn" "_law_drawn" (defArgs s__law_drawn) (defBody s__law_drawn) (defScope s__law_drawn) .none kV29 dc29 pm29 an29 cd29 ct29), sl29⟩) (c29 : PySem.W.codeIn K cd29 "_law_drawn" = true) (k29 : PySem.W.keepIn K (.ref f29) = true)
    (a30 : PySem.W.nsIn K mainGlobals "_law_excluded" = some (some (.ref f30))) (l30 : K.lookup f30 = some ⟨oc30, od30, .func (PySem.W.fnOf "_law_excluded" "_law_excluded" (defArgs s__law_excluded) (defBody s__law_excluded) (defScope s__law_excluded) .none kV30 dc30 pm30 an30 cd30 ct30), sl30⟩) (c30 : PySem.W.codeIn K cd30 "_law_excluded" = true) (k30 : PySem.W.keepIn K (.ref f30) = true)
    (a31 : PySem.W.nsIn K mainGlobals "_law_never_excluded" = some (some (.ref f31))) (l31 : K.lookup f31 = some ⟨oc31, od31, .func (PySem.W.fnOf "_law_never_excluded" "_law_never_excluded" (defArgs s__law_never_excluded) (defBody s__law_never_excluded) (defScope s__law_never_excluded) .none kV31 dc31 pm31 an31 cd31 ct31), sl31⟩) (c31 : PySem.W.codeIn K cd31 "_law_never_excluded" = true) (k31 : PySem.W.keepIn K (.ref f31) = true)
    (a32 : PySem.W.nsIn K mainGlobals "law" = some (some (.ref f32))) (l32 : K.lookup f32 = some ⟨oc32, od32, .func (PySem.W.fnOf "law" "law" (defArgs s_law) (defBody s_law) (defScope s_law) .none kV32 dc32 pm32 an32 cd32 ct32), sl32⟩) (c32 : PySem.W.codeIn K cd32 "law" = true) (k32 : PySem.W.keepIn K (.ref f32) = true)
    (z_isinstance : PySem.W.nsIn K mainGlobals "isinstance" = some none)
    (z_int : PySem.W.nsIn K mainGlobals "int" = some none)
    (z_bool : PySem.W.nsIn K mainGlobals "bool" = some none)
    (z_tuple : PySem.W.nsIn K mainGlobals "tuple" = some none)
    (z_len : PySem.W.nsIn K mainGlobals "len" = some none)
    (z_all : PySem.W.nsIn K mainGlobals "all" = some none)
    (z_max : PySem.W.nsIn K mainGlobals "max" = some none)
    (z_min : PySem.W.nsIn K mainGlobals "min" = some none)
    (z_zip : PySem.W.nsIn K mainGlobals "zip" = some none)
    (z_range : PySem.W.nsIn K mainGlobals "range" = some none)
    (z_enumerate : PySem.W.nsIn K mainGlobals "enumerate" = some none)
    (z_abs : PySem.W.nsIn K mainGlobals "abs" = some none)
    (z_list : PySem.W.nsIn K mainGlobals "list" = some none)
    (m_TOP : PySem.W.nsIn K mainGlobals "TOP" = some (some (.int 1000000000000 t0)))
    : ∃ fd : FuncData, (∀ (s : Shared) (v : Value), BindsTo s fd ⟨[v], []⟩ [("_law_script", v)]) ∧ ∀ base : Heap, K.In base → base.Ns mainGlobals mg → FnOk l.prog w K mg base CX0 8 fa fd ["_law_script"] (sp_law K) := by
  have e := hfa.symm.trans (PySem.W.mg_of X G a32)
  cases e
  have y_isinstance := PySem.W.mg_none_of X G z_isinstance
  have y_int := PySem.W.mg_none_of X G z_int
  have y_bool := PySem.W.mg_none_of X G z_bool
  have y_tuple := PySem.W.mg_none_of X G z_tuple
  have y_len := PySem.W.mg_none_of X G z_len
  have y_all := PySem.W.mg_none_of X G z_all
  have y_max := PySem.W.mg_none_of X G z_max
  have y_min := PySem.W.mg_none_of X G z_min
  have y_zip := PySem.W.mg_none_of X G z_zip
  have y_range := PySem.W.mg_none_of X G z_range
  have y_enumerate := PySem.W.mg_none_of X G z_enumerate
  have y_abs := PySem.W.mg_none_of X G z_abs
  have y_list := PySem.W.mg_none_of X G z_list
  have x_TOP := PySem.W.mg_of X G m_TOP
  have F1 := fun_mk (st := s_is_integer) l1 c1 k1
  have b1 := F1.binds (ps := ["value"]) fun _ _ _ _ _ _ us hl => match us, hl with | [_], _ => rfl
  have F2 := fun_mk (st := s_is_level) l2 c2 k2
  have b2 := F2.binds (ps := ["value"]) fun _ _ _ _ _ _ us hl => match us, hl with | [_], _ => rfl
  have F3 := fun_mk (st := s_is_number_below) l3 c3 k3
  have b3 := F3.binds (ps := ["value", "many"]) fun _ _ _ _ _ _ us hl => match us, hl with | [_, _], _ => rfl
  have F4 := fun_mk (st := s_is_tuple_of) l4 c4 k4
  have b4 := F4.binds (ps := ["value", "many"]) fun _ _ _ _ _ _ us hl => match us, hl with | [_, _], _ => rfl
  have F5 := fun_mk (st := s_are_levels) l5 c5 k5
  have b5 := F5.binds (ps := ["value", "many"]) fun _ _ _ _ _ _ us hl => match us, hl with | [_, _], _ => rfl
  have F6 := fun_mk (st := s_is_setting) l6 c6 k6
  have b6 := F6.binds (ps := ["table", "value"]) fun _ _ _ _ _ _ us hl => match us, hl with | [_, _], _ => rfl
  have F7 := fun_mk (st := s_are_wants) l7 c7 k7
  have b7 := F7.binds (ps := ["table", "value"]) fun _ _ _ _ _ _ us hl => match us, hl with | [_, _], _ => rfl
  have F8 := fun_mk (st := s_level_of) l8 c8 k8
  have b8 := F8.binds (ps := ["row", "setting"]) fun _ _ _ _ _ _ us hl => match us, hl with | [_, _], _ => rfl
  have F9 := fun_mk (st := s_levels_of) l9 c9 k9
  have b9 := F9.binds (ps := ["table", "setting"]) fun _ _ _ _ _ _ us hl => match us, hl with | [_, _], _ => rfl
  have F10 := fun_mk (st := s_upper_level) l10 c10 k10
  have b10 := F10.binds (ps := ["table", "wants", "inlet"]) fun _ _ _ _ _ _ us hl => match us, hl with | [_, _, _], _ => rfl
  have F11 := fun_mk (st := s_upper_setting) l11 c11 k11
  have b11 := F11.binds (ps := ["table", "wants"]) fun _ _ _ _ _ _ us hl => match us, hl with | [_, _], _ => rfl
  have F12 := fun_mk (st := s_is_solution) l12 c12 k12
  have b12 := F12.binds (ps := ["table", "wants", "value"]) fun _ _ _ _ _ _ us hl => match us, hl with | [_, _, _], _ => rfl
  have F13 := fun_mk (st := s_is_reason) l13 c13 k13
  have b13 := F13.binds (ps := ["table", "wants", "outlet", "inlet", "reason"]) fun _ _ _ _ _ _ us hl => match us, hl with | [_, _, _, _, _], _ => rfl
  have F14 := fun_mk (st := s_are_reasons) l14 c14 k14
  have b14 := F14.binds (ps := ["table", "wants", "outlet", "reasons"]) fun _ _ _ _ _ _ us hl => match us, hl with | [_, _, _, _], _ => rfl
  have F15 := fun_mk (st := s_is_evidence) l15 c15 k15
  have b15 := F15.binds (ps := ["table", "wants", "value"]) fun _ _ _ _ _ _ us hl => match us, hl with | [_, _, _], _ => rfl
  have F16 := fun_mk (st := s_reason_of) l16 c16 k16
  have b16 := F16.binds (ps := ["table", "wants", "outlet", "inlet"]) fun _ _ _ _ _ _ us hl => match us, hl with | [_, _, _, _], _ => rfl
  have F17 := fun_mk (st := s_reasons_of) l17 c17 k17
  have b17 := F17.binds (ps := ["table", "wants", "outlet"]) fun _ _ _ _ _ _ us hl => match us, hl with | [_, _, _], _ => rfl
  have F18 := fun_mk (st := s_find_evidence) l18 c18 k18
  have b18 := F18.binds (ps := ["table", "wants"]) fun _ _ _ _ _ _ us hl => match us, hl with | [_, _], _ => rfl
  have F19 := fun_mk (st := s_certificate) l19 c19 k19
  have b19 := F19.binds (ps := ["table", "wants"]) fun _ _ _ _ _ _ us hl => match us, hl with | [_, _], _ => rfl
  have F20 := fun_mk (st := s__law_deck) l20 c20 k20
  have b20 := F20.binds (ps := ["_law_script"]) fun _ _ _ _ _ _ us hl => match us, hl with | [_], _ => rfl
  have F21 := fun_mk (st := s__law_next) l21 c21 k21
  have b21 := F21.binds (ps := ["_law_deck_here", "_law_many"]) fun _ _ _ _ _ _ us hl => match us, hl with | [_, _], _ => rfl
  have F22 := fun_mk (st := s__law_one) l22 c22 k22
  have b22 := F22.binds (ps := ["_law_deck_here", "_law_some"]) fun _ _ _ _ _ _ us hl => match us, hl with | [_, _], _ => rfl
  have F23 := fun_mk (st := s__law_great) l23 c23 k23
  have b23 := F23.binds (ps := ["_law_deck_here"]) fun _ _ _ _ _ _ us hl => match us, hl with | [_], _ => rfl
  have F24 := fun_mk (st := s__law_level) l24 c24 k24
  have b24 := F24.binds (ps := ["_law_deck_here", "_law_great_here"]) fun _ _ _ _ _ _ us hl => match us, hl with | [_, _], _ => rfl
  have F25 := fun_mk (st := s__law_row) l25 c25 k25
  have b25 := F25.binds (ps := ["_law_deck_here", "_law_great_here", "_law_count"]) fun _ _ _ _ _ _ us hl => match us, hl with | [_, _, _], _ => rfl
  have F26 := fun_mk (st := s__law_table) l26 c26 k26
  have b26 := F26.binds (ps := ["_law_deck_here", "_law_great_here", "_law_outlets", "_law_inlets"]) fun _ _ _ _ _ _ us hl => match us, hl with | [_, _, _, _], _ => rfl
  have F27 := fun_mk (st := s__law_levels) l27 c27 k27
  have b27 := F27.binds (ps := ["_law_table_here", "_law_setting"]) fun _ _ _ _ _ _ us hl => match us, hl with | [_, _], _ => rfl
  have F28 := fun_mk (st := s__law_wants) l28 c28 k28
  have b28 := F28.binds (ps := ["_law_deck_here", "_law_table_here", "_law_great_here"]) fun _ _ _ _ _ _ us hl => match us, hl with | [_, _, _], _ => rfl
  have F29 := fun_mk (st := s__law_drawn) l29 c29 k29
  have b29 := F29.binds (ps := ["_law_deck_here", "_law_table_here", "_law_wants_here"]) fun _ _ _ _ _ _ us hl => match us, hl with | [_, _, _], _ => rfl
  have F30 := fun_mk (st := s__law_excluded) l30 c30 k30
  have b30 := F30.binds (ps := ["_law_deck_here", "_law_table_here", "_law_wants_here", "_law_told"]) fun _ _ _ _ _ _ us hl => match us, hl with | [_, _, _, _], _ => rfl
  have F31 := fun_mk (st := s__law_never_excluded) l31 c31 k31
  have b31 := F31.binds (ps := ["_law_deck_here", "_law_table_here", "_law_wants_here"]) fun _ _ _ _ _ _ us hl => match us, hl with | [_, _, _], _ => rfl
  have F32 := fun_mk (st := s_law) l32 c32 k32
  refine ⟨PySem.W.fnOf "law" "law" (defArgs s_law) (defBody s_law) (defScope s_law) .none kV32 dc32 pm32 an32 cd32 ct32, fun s v => .of_eq rfl, fun base _ _ => ?_⟩
  have C1 := cal_mk F1 (ok_is_integer (P := l.prog) (w := w) (base := base) F1 y_isinstance y_int y_bool) (PySem.W.mg_of X G a1) b1
  have C2 := cal_mk F2 (ok_is_level (P := l.prog) (w := w) (base := base) F2 C1 ⟨_, x_TOP⟩) (PySem.W.mg_of X G a2) b2
  have C3 := cal_mk F3 (ok_is_number_below (P := l.prog) (w := w) (base := base) F3 C1) (PySem.W.mg_of X G a3) b3
  have C4 := cal_mk F4 (ok_is_tuple_of (P := l.prog) (w := w) (base := base) F4 y_isinstance y_tuple y_len) (PySem.W.mg_of X G a4) b4
  have C5 := cal_mk F5 (ok_are_levels (P := l.prog) (w := w) (base := base) F5 C4 C2 y_all) (PySem.W.mg_of X G a5) b5
  have C6 := cal_mk F6 (ok_is_setting (P := l.prog) (w := w) (base := base) F6 C5 y_len) (PySem.W.mg_of X G a6) b6
  have C7 := cal_mk F7 (ok_are_wants (P := l.prog) (w := w) (base := base) F7 C5 y_len) (PySem.W.mg_of X G a7) b7
  have C8 := cal_mk F8 (ok_level_of (P := l.prog) (w := w) (base := base) F8 y_max y_min y_zip) (PySem.W.mg_of X G a8) b8
  have C9 := cal_mk F9 (ok_levels_of (P := l.prog) (w := w) (base := base) F9 C6 C8 y_tuple) (PySem.W.mg_of X G a9) b9
  have C10 := cal_mk F10 (ok_upper_level (P := l.prog) (w := w) (base := base) F10 y_min y_zip ⟨_, x_TOP⟩) (PySem.W.mg_of X G a10) b10
  have C11 := cal_mk F11 (ok_upper_setting (P := l.prog) (w := w) (base := base) F11 C7 C10 y_tuple y_range y_len) (PySem.W.mg_of X G a11) b11
  have C12 := cal_mk F12 (ok_is_solution (P := l.prog) (w := w) (base := base) F12 C7 C6 C9) (PySem.W.mg_of X G a12) b12
  have C13 := cal_mk F13 (ok_is_reason (P := l.prog) (w := w) (base := base) F13 C3 y_len) (PySem.W.mg_of X G a13) b13
  have C14 := cal_mk F14 (ok_are_reasons (P := l.prog) (w := w) (base := base) F14 C4 C13 y_all y_len y_enumerate) (PySem.W.mg_of X G a14) b14
  have C15 := cal_mk F15 (ok_is_evidence (P := l.prog) (w := w) (base := base) F15 C3 C14 C7 C4 y_len) (PySem.W.mg_of X G a15) b15
  have C16 := cal_mk F16 (ok_reason_of (P := l.prog) (w := w) (base := base) F16 C13 y_range y_len) (PySem.W.mg_of X G a16) b16
  have C17 := cal_mk F17 (ok_reasons_of (P := l.prog) (w := w) (base := base) F17 C16 y_tuple y_range y_len) (PySem.W.mg_of X G a17) b17
  have C18 := cal_mk F18 (ok_find_evidence (P := l.prog) (w := w) (base := base) F18 C9 C11 C17 y_range y_len) (PySem.W.mg_of X G a18) b18
  have C19 := cal_mk F19 (ok_certificate (P := l.prog) (w := w) (base := base) F19 C18 C11) (PySem.W.mg_of X G a19) b19
  have C20 := cal_mk F20 (ok__law_deck (P := l.prog) (w := w) (base := base) F20 y_abs y_len) (PySem.W.mg_of X G a20) b20
  have C21 := cal_mk F21 (ok__law_next (P := l.prog) (w := w) (base := base) F21 y_len) (PySem.W.mg_of X G a21) b21
  have C22 := cal_mk F22 (ok__law_one (P := l.prog) (w := w) (base := base) F22 C21 y_len) (PySem.W.mg_of X G a22) b22
  have C23 := cal_mk F23 (ok__law_great (P := l.prog) (w := w) (base := base) F23 C21) (PySem.W.mg_of X G a23) b23
  have C24 := cal_mk F24 (ok__law_level (P := l.prog) (w := w) (base := base) F24 C21) (PySem.W.mg_of X G a24) b24
  have C25 := cal_mk F25 (ok__law_row (P := l.prog) (w := w) (base := base) F25 C24 y_tuple y_range) (PySem.W.mg_of X G a25) b25
  have C26 := cal_mk F26 (ok__law_table (P := l.prog) (w := w) (base := base) F26 C21 C25 y_tuple y_range) (PySem.W.mg_of X G a26) b26
  have C27 := cal_mk F27 (ok__law_levels (P := l.prog) (w := w) (base := base) F27 y_tuple y_max y_min y_zip) (PySem.W.mg_of X G a27) b27
  have C28 := cal_mk F28 (ok__law_wants (P := l.prog) (w := w) (base := base) F28 C27 C21 C25 C24 y_len) (PySem.W.mg_of X G a28) b28
  have C29 := cal_mk F29 (ok__law_drawn (P := l.prog) (w := w) (base := base) F29 C21 C22 y_tuple y_list) (PySem.W.mg_of X G a29) b29
  have C30 := cal_mk F30 (ok__law_excluded (P := l.prog) (w := w) (base := base) F30 C29 C27 C12 C15 C21 y_range y_min y_tuple y_len) (PySem.W.mg_of X G a30) b30
  have C31 := cal_mk F31 (ok__law_never_excluded (P := l.prog) (w := w) (base := base) F31 C15 C22 C21 y_range y_tuple y_len) (PySem.W.mg_of X G a31) b31
  exact ok_law (P := l.prog) (w := w) (base := base) F32 C20 C23 C26 C28 C19 C15 C30 C12 C31 y_range
end KK
open PySem PySem.W PyProof.Rows
set_option maxHeartbeats 0 in
theorem PySem.Challenge.cw_widthmix_k11_whole_never_both_holds : PySem.Challenge.rw_widthmix_k11_whole_never_both.Holds := by
  w_on; o_law; k_head; (case hw => w_witness2)
  k_fill
  refine L2.walk_of (l := PySem.Challenge.rw_widthmix_k11_whole_never_both) (n := 63) (k := 8) (x := "_law_script") (CX := fun _ => L2.CX0) (sp := fun w => KK.sp_law _) rfl (by decide) rfl ⟨rfl, by decide, by decide⟩ (fun w h Y => PySem.W.kIn_of Y) ?F (fun _ _ a ns hl hO hS => ⟨a, ns, rfl, hS, hl, hO, fun _ => rfl⟩) (fun _ _ _ _ _ h => h)
  case F =>
    intro w mg fa h KX G hmg
    refine' KK.all_mk KX G hmg ?a1 ?l1 ?c1 ?k1 ?a2 ?l2 ?c2 ?k2 ?a3 ?l3 ?c3 ?k3 ?a4 ?l4 ?c4 ?k4 ?a5 ?l5 ?c5 ?k5 ?a6 ?l6 ?c6 ?k6 ?a7 ?l7 ?c7 ?k7 ?a8 ?l8 ?c8 ?k8 ?a9 ?l9 ?c9 ?k9 ?a10 ?l10 ?c10 ?k10 ?a11 ?l11 ?c11 ?k11 ?a12 ?l12 ?c12 ?k12 ?a13 ?l13 ?c13 ?k13 ?a14 ?l14 ?c14 ?k14 ?a15 ?l15 ?c15 ?k15 ?a16 ?l16 ?c16 ?k16 ?a17 ?l17 ?c17 ?k17 ?a18 ?l18 ?c18 ?k18 ?a19 ?l19 ?c19 ?k19 ?a20 ?l20 ?c20 ?k20 ?a21 ?l21 ?c21 ?k21 ?a22 ?l22 ?c22 ?k22 ?a23 ?l23 ?c23 ?k23 ?a24 ?l24 ?c24 ?k24 ?a25 ?l25 ?c25 ?k25 ?a26 ?l26 ?c26 ?k26 ?a27 ?l27 ?c27 ?k27 ?a28 ?l28 ?c28 ?k28 ?a29 ?l29 ?c29 ?k29 ?a30 ?l30 ?c30 ?k30 ?a31 ?l31 ?c31 ?k31 ?a32 ?l32 ?c32 ?k32 ?z_isinstance ?z_int ?z_bool ?z_tuple ?z_len ?z_all ?z_max ?z_min ?z_zip ?z_range ?z_enumerate ?z_abs ?z_list ?m_TOP
    (case a1 => k_is); (case l1 => k_is); (case c1 => k_is); (case k1 => k_is); (case a2 => k_is); (case l2 => k_is); (case c2 => k_is); (case k2 => k_is); (case a3 => k_is); (case l3 => k_is); (case c3 => k_is); (case k3 => k_is); (case a4 => k_is); (case l4 => k_is); (case c4 => k_is); (case k4 => k_is); (case a5 => k_is); (case l5 => k_is); (case c5 => k_is); (case k5 => k_is); (case a6 => k_is); (case l6 => k_is); (case c6 => k_is); (case k6 => k_is); (case a7 => k_is); (case l7 => k_is); (case c7 => k_is); (case k7 => k_is); (case a8 => k_is); (case l8 => k_is); (case c8 => k_is); (case k8 => k_is); (case a9 => k_is); (case l9 => k_is); (case c9 => k_is); (case k9 => k_is); (case a10 => k_is); (case l10 => k_is); (case c10 => k_is); (case k10 => k_is); (case a11 => k_is); (case l11 => k_is); (case c11 => k_is); (case k11 => k_is); (case a12 => k_is); (case l12 => k_is); (case c12 => k_is); (case k12 => k_is); (case a13 => k_is); (case l13 => k_is); (case c13 => k_is); (case k13 => k_is); (case a14 => k_is); (case l14 => k_is); (case c14 => k_is); (case k14 => k_is); (case a15 => k_is); (case l15 => k_is); (case c15 => k_is); (case k15 => k_is); (case a16 => k_is); (case l16 => k_is); (case c16 => k_is); (case k16 => k_is); (case a17 => k_is); (case l17 => k_is); (case c17 => k_is); (case k17 => k_is); (case a18 => k_is); (case l18 => k_is); (case c18 => k_is); (case k18 => k_is); (case a19 => k_is); (case l19 => k_is); (case c19 => k_is); (case k19 => k_is); (case a20 => k_is); (case l20 => k_is); (case c20 => k_is); (case k20 => k_is); (case a21 => k_is); (case l21 => k_is); (case c21 => k_is); (case k21 => k_is); (case a22 => k_is); (case l22 => k_is); (case c22 => k_is); (case k22 => k_is); (case a23 => k_is); (case l23 => k_is); (case c23 => k_is); (case k23 => k_is); (case a24 => k_is); (case l24 => k_is); (case c24 => k_is); (case k24 => k_is); (case a25 => k_is); (case l25 => k_is); (case c25 => k_is); (case k25 => k_is); (case a26 => k_is); (case l26 => k_is); (case c26 => k_is); (case k26 => k_is); (case a27 => k_is); (case l27 => k_is); (case c27 => k_is); (case k27 => k_is); (case a28 => k_is); (case l28 => k_is); (case c28 => k_is); (case k28 => k_is); (case a29 => k_is); (case l29 => k_is); (case c29 => k_is); (case k29 => k_is); (case a30 => k_is); (case l30 => k_is); (case c30 => k_is); (case k30 => k_is); (case a31 => k_is); (case l31 => k_is); (case c31 => k_is); (case k31 => k_is); (case a32 => k_is); (case l32 => k_is); (case c32 => k_is); (case k32 => k_is); (case z_isinstance => k_is); (case z_int => k_is); (case z_bool => k_is); (case z_tuple => k_is); (case z_len => k_is); (case z_all => k_is); (case z_max => k_is); (case z_min => k_is); (case z_zip => k_is); (case z_range => k_is); (case z_enumerate => k_is); (case z_abs => k_is); (case z_list => k_is); (case m_TOP => k_is)
