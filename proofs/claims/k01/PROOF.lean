import PyProof.Rows.All
import Wide.All
import OpenK.AllK
import Wide.FinOn
import HandS.ForMost
import HandS.IsInst
import HandS.TupAny
import HandS.TupMul
import HandS.Style
import HandS.Wide
import HandS.Conv
import HandS.Zip
import HandS.Strs
import HandS.SetKeys
import HandS.Defaults
import PyProof.StrOps2
import PyProof.Rows.SetFrom
import PyProof.SetRoads
import PyProof.ListStr
import PyProof.ReprRoads
import PyProof.NeKinds
import PyProof.ReprLen
import PySem.Challenge.RW_asnevertold_k01_names_and_tables
set_option Elab.async false
set_option linter.all false
set_option maxRecDepth 100000
set_option maxHeartbeats 8000000
-- PV1
namespace PV
open PySem PySem.Spec PyProof.Rows L2

/-! ### plain data, a memory of lists, and what stands for them in the heap -/
inductive D where
  | non | bl (b : Bool) | int (i : Int) | str (x : Str) | tup (xs : List D) | ref (n : Nat)
  /-- a list that never changes (the script); {} -/
  | cl (xs : List D) | emp
inductive Ob where
  | lst (xs : List D)
abbrev Mem := List Ob
abbrev Vars := List (Option D)

/-- a list that never changes: locked, or written -/
def SqC (K : PySem.W.Frag) (H : Hp) (a : Addr) (xs : List V) : Prop := (∃ o, H a = some (.frz o (.lst xs))) ∨
    ∃ (o : Obj) (its : Array Value) (n : Nat), K.lookup a = some o ∧ o.cls = .type "list" ∧ o.dict = none ∧ o.data = .seq its n ∧ its.size ≤ sizeLine ∧ Vals xs its.toList
theorem SqC.sq {K : PySem.W.Frag} {H : Hp} {a : Addr} {xs : List V} (h : SqC K H a xs) : SqL K H a xs := h.elim (fun ⟨o, e⟩ => .inl (.inr ⟨o, e⟩)) fun h => .inr h
mutual
inductive Dv (K : PySem.W.Frag) (H : Hp) (ρ : List Addr) : V → D → Prop
  | non : Dv K H ρ .non .non
  | bl (b : Bool) : Dv K H ρ (.bl b) (.bl b)
  | int (i : Int) : Dv K H ρ (.int i) (.int i)
  | str (x : Str) : Dv K H ρ (.str x) (.str x)
  | tup {a : Addr} {vs : List V} {ds : List D} : SqT K H a vs → DvAll K H ρ vs ds → Dv K H ρ (.ref a) (.tup ds)
  | ref {n : Nat} {a : Addr} : ρ[n]? = some a → Dv K H ρ (.ref a) (.ref n)
  | cl {a : Addr} {vs : List V} {ds : List D} : SqC K H a vs → DvAll K H ρ vs ds → Dv K H ρ (.ref a) (.cl ds)
  | emp {a : Addr} : H a = some (.dK []) → Dv K H ρ (.ref a) .emp
inductive DvAll (K : PySem.W.Frag) (H : Hp) (ρ : List Addr) : List V → List D → Prop
  | nil : DvAll K H ρ [] []
  | cons {v : V} {vs : List V} {d : D} {ds : List D} : Dv K H ρ v d → DvAll K H ρ vs ds → DvAll K H ρ (v :: vs) (d :: ds)
end

/-! ### what data lean on -/
structure Tx (H H' : Hp) (ρ ρ' : List Addr) : Prop where
  pre : ∃ l, ρ' = ρ ++ l
  tup : ∀ a xs, H a = some (.tup xs) → H' a = some (.tup xs)
  frz : ∀ a o u, H a = some (.frz o u) → H' a = some (.frz o u)
  emp : ∀ a, H a = some (.dK []) → H' a = some (.dK [])
theorem Tx.get {H H' : Hp} {ρ ρ' : List Addr} (s : Tx H H' ρ ρ') {n : Nat} {a : Addr} (h : ρ[n]? = some a) : ρ'[n]? = some a := by
  obtain ⟨l, rfl⟩ := s.pre
  have hn : n < ρ.length := (List.getElem?_eq_some_iff.mp h).1
  rw [List.getElem?_append_left hn]
  exact h
section
variable {K : PySem.W.Frag} {H H' : Hp} {ρ ρ' : List Addr}
mutual
theorem Dv.tx (s : Tx H H' ρ ρ') : ∀ {v : V} {d : D}, Dv K H ρ v d → Dv K H' ρ' v d
  | _, _, .non => .non
  | _, _, .bl b => .bl b
  | _, _, .int i => .int i
  | _, _, .str x => .str x
  | _, _, .tup (.inl (.inl h1)) h2 => .tup (.inl (.inl (s.tup _ _ h1))) (DvAll.tx s h2)
  | _, _, .tup (.inl (.inr ⟨o, h1⟩)) h2 => .tup (.inl (.inr ⟨o, s.frz _ _ _ h1⟩)) (DvAll.tx s h2)
  | _, _, .tup (.inr h1) h2 => .tup (.inr h1) (DvAll.tx s h2)
  | _, _, .ref h => .ref (s.get h)
  | _, _, .cl (.inl ⟨o, h1⟩) h2 => .cl (.inl ⟨o, s.frz _ _ _ h1⟩) (DvAll.tx s h2)
  | _, _, .cl (.inr h1) h2 => .cl (.inr h1) (DvAll.tx s h2)
  | _, _, .emp h => .emp (s.emp _ h)
theorem DvAll.tx (s : Tx H H' ρ ρ') : ∀ {vs : List V} {ds : List D}, DvAll K H ρ vs ds → DvAll K H' ρ' vs ds
  | _, _, .nil => .nil
  | _, _, .cons h t => .cons (Dv.tx s h) (DvAll.tx s t)
end
end
/-- what stands for a thing of the memory -/
def ObR (K : PySem.W.Frag) (H : Hp) (ρ : List Addr) (a : Addr) : Ob → Prop
  | .lst xs => ∃ vs, H a = some (.lst vs) ∧ DvAll K H ρ vs xs
def OpenO : HO → Prop
  | .lst _ => True
  | _ => False
structure RelM (K : PySem.W.Frag) (H : Hp) (ρ : List Addr) (M : List Ob) : Prop where
  len : ρ.length = M.length
  nd : ρ.Nodup
  ob : ∀ (n : Nat) (o : Ob), M[n]? = some o → ∃ a : Addr, ρ[n]? = some a ∧ ObR K H ρ a o
/-- a step of the heap -/
structure Stp (H H' : Hp) (ρ ρ' : List Addr) : Prop where
  pre : ∃ l, ρ' = ρ ++ l
  fr : ∀ a o, H a = some o → a ∉ ρ → H' a = some o
  new : ∀ a ∈ ρ', a ∉ ρ → H a = none
section
variable {K : PySem.W.Frag} {H H' H1 H2 : Hp} {ρ ρ' ρ1 ρ2 : List Addr} {M : Mem} {v : V} {d : D} {vs : List V} {ds : List D}
theorem Stp.refl : Stp H H ρ ρ := ⟨⟨[], by simp⟩, fun _ _ h _ => h, fun _ h h' => absurd h h'⟩
theorem Stp.trans (a : Stp H H1 ρ ρ1) (b : Stp H1 H2 ρ1 ρ2) : Stp H H2 ρ ρ2 := by
  refine ⟨?_, fun x o h hx => ?_, fun x h hx => ?_⟩
  · obtain ⟨l, rfl⟩ := a.pre
    obtain ⟨m, rfl⟩ := b.pre
    exact ⟨l ++ m, by simp⟩
  · refine b.fr x o (a.fr x o h hx) fun hm => ?_
    rw [a.new x hm hx] at h
    cases h
  · by_cases hm : x ∈ ρ1
    · exact a.new x hm hx
    · cases e : H x with
      | none => rfl
      | some o =>
        have q := b.new x h hm
        rw [a.fr x o e hx] at q
        cases q
theorem Stp.get (s : Stp H H' ρ ρ') {n : Nat} {a : Addr} (h : ρ[n]? = some a) : ρ'[n]? = some a := by
  obtain ⟨l, rfl⟩ := s.pre
  have hn : n < ρ.length := (List.getElem?_eq_some_iff.mp h).1
  rw [List.getElem?_append_left hn]
  exact h
/-- a new thing that is not noted -/
theorem Stp.laid {p : Addr} {o : HO} (hp : H p = none) : Stp H (upd H p o) ρ ρ :=
  ⟨⟨[], by simp⟩, fun a u h _ => by rw [upd_ne (ne_of_none h hp)]; exact h, fun _ h h' => absurd h h'⟩
theorem RelM.mem (R : RelM K H ρ M) {a : Addr} (h : a ∈ ρ) : ∃ o, H a = some o ∧ OpenO o := by
  obtain ⟨n, hn, e⟩ := List.mem_iff_getElem.mp h
  have hm : n < M.length := by rw [← R.len]; exact hn
  obtain ⟨b, hb, hr⟩ := R.ob n M[n] (List.getElem?_eq_getElem hm)
  have : b = a := by
    rw [List.getElem?_eq_getElem hn, e] at hb
    exact (Option.some.inj hb).symm
  subst this
  cases ho : M[n] with
  | lst xs =>
    rw [ho] at hr
    obtain ⟨ws, hw, _⟩ := hr
    exact ⟨_, hw, trivial⟩
theorem RelM.out (R : RelM K H ρ M) {a : Addr} {o : HO} (h : H a = some o) (ho : ¬ OpenO o) : a ∉ ρ := fun hm => by
  obtain ⟨u, hu, hn⟩ := R.mem hm
  rw [h] at hu
  cases hu
  exact ho hn
theorem sqT_stp (s : Stp H H' ρ ρ') (R : RelM K H ρ M) {a : Addr} (h : SqT K H a vs) : SqT K H' a vs := by
  rcases h with (h | ⟨o, h⟩) | h
  · exact .inl (.inl (s.fr _ _ h (R.out h fun z => z)))
  · exact .inl (.inr ⟨o, s.fr _ _ h (R.out h fun z => z)⟩)
  · exact .inr h
theorem sqC_stp (s : Stp H H' ρ ρ') (R : RelM K H ρ M) {a : Addr} (h : SqC K H a vs) : SqC K H' a vs := by
  rcases h with ⟨o, h⟩ | h
  · exact .inl ⟨o, s.fr _ _ h (R.out h fun z => z)⟩
  · exact .inr h
mutual
theorem Dv.mono (s : Stp H H' ρ ρ') (R : RelM K H ρ M) : ∀ {v : V} {d : D}, Dv K H ρ v d → Dv K H' ρ' v d
  | _, _, .non => .non
  | _, _, .bl b => .bl b
  | _, _, .int i => .int i
  | _, _, .str x => .str x
  | _, _, .tup h1 h2 => .tup (sqT_stp s R h1) (DvAll.mono s R h2)
  | _, _, .ref h => .ref (s.get h)
  | _, _, .cl h1 h2 => .cl (sqC_stp s R h1) (DvAll.mono s R h2)
  | _, _, .emp h => .emp (s.fr _ _ h (R.out h fun z => z))
theorem DvAll.mono (s : Stp H H' ρ ρ') (R : RelM K H ρ M) : ∀ {vs : List V} {ds : List D}, DvAll K H ρ vs ds → DvAll K H' ρ' vs ds
  | _, _, .nil => .nil
  | _, _, .cons h t => .cons (Dv.mono s R h) (DvAll.mono s R t)
end
theorem DvAll.length : ∀ {vs : List V} {ds : List D}, DvAll K H ρ vs ds → vs.length = ds.length
  | _, _, .nil => rfl
  | _, _, .cons _ t => congrArg Nat.succ (DvAll.length t)
theorem DvAll.get : ∀ {vs : List V} {ds : List D} {i : Nat} {d : D}, DvAll K H ρ vs ds → ds[i]? = some d → ∃ v, vs[i]? = some v ∧ Dv K H ρ v d
  | _, _, _, _, .nil, e => by simp at e
  | _, _, 0, _, .cons r _, e => by simp at e; subst e; exact ⟨_, rfl, r⟩
  | _, _, i + 1, d, .cons _ t, e => by
    obtain ⟨u, h1, h2⟩ := DvAll.get (i := i) (d := d) t (by simpa using e)
    exact ⟨u, by simpa using h1, h2⟩
theorem DvAll.append : ∀ {xs ys : List V} {ds es : List D}, DvAll K H ρ xs ds → DvAll K H ρ ys es → DvAll K H ρ (xs ++ ys) (ds ++ es)
  | _, _, _, _, .nil, s => s
  | _, _, _, _, .cons r t, s => .cons r (DvAll.append t s)
theorem DvAll.take : ∀ {xs : List V} {ds : List D} (n : Nat), DvAll K H ρ xs ds → DvAll K H ρ (xs.take n) (ds.take n)
  | _, _, 0, _ => .nil
  | _, _, _ + 1, .nil => .nil
  | _, _, n + 1, .cons r t => .cons r (DvAll.take n t)
theorem DvAll.drop : ∀ {xs : List V} {ds : List D} (n : Nat), DvAll K H ρ xs ds → DvAll K H ρ (xs.drop n) (ds.drop n)
  | _, _, 0, r => r
  | _, _, n + 1, .nil => .nil
  | _, _, n + 1, .cons _ t => DvAll.drop n t
theorem DvAll.one (h : Dv K H ρ v d) : DvAll K H ρ [v] [d] := .cons h .nil
theorem RelM.sub (s : Stp H H' ρ ρ) (R : RelM K H ρ M) (h : ∀ a ∈ ρ, H' a = H a) : RelM K H' ρ M := by
  refine ⟨R.len, R.nd, fun n o e => ?_⟩
  obtain ⟨a, ha, hr⟩ := R.ob n o e
  refine ⟨a, ha, ?_⟩
  cases o with
  | lst xs =>
    obtain ⟨ws, hw, hd⟩ := hr
    exact ⟨ws, by rw [h a (List.mem_of_getElem? ha)]; exact hw, DvAll.mono s R hd⟩
/-- a new thing that is not noted -/
theorem RelM.laid {p : Addr} {o : HO} (R : RelM K H ρ M) (hp : H p = none) : RelM K (upd H p o) ρ M := R.sub (Stp.laid hp) fun a ha => by
  obtain ⟨u, hu, _⟩ := R.mem ha
  rw [upd_ne (ne_of_none hu hp)]
/-- a thing in the heap is noted -/
theorem RelM.note {p : Addr} {xs : List V} {ds : List D} (R : RelM K H ρ M) (hp : H p = some (.lst xs)) (hn : p ∉ ρ) (hd : DvAll K H ρ xs ds) :
    RelM K H (ρ ++ [p]) (M ++ [.lst ds]) := by
  have grow : ∀ {vs : List V} {es : List D}, DvAll K H ρ vs es → DvAll K H (ρ ++ [p]) vs es := fun h => DvAll.tx ⟨⟨[p], rfl⟩, fun _ _ e => e, fun _ _ _ e => e, fun _ e => e⟩ h
  refine ⟨by simp [R.len], ?_, fun n o e => ?_⟩
  · refine List.nodup_append.mpr ⟨R.nd, by simp, fun a ha b hb => ?_⟩
    simp at hb
    subst hb
    exact fun e => hn (e ▸ ha)
  · by_cases h : n < M.length
    · rw [List.getElem?_append_left h] at e
      obtain ⟨a, ha, hr⟩ := R.ob n o e
      refine ⟨a, ?_, ?_⟩
      · rw [List.getElem?_append_left (by rw [R.len]; exact h)]
        exact ha
      · cases o with
        | lst ys =>
          obtain ⟨ws, hw, hd'⟩ := hr
          exact ⟨ws, hw, grow hd'⟩
    · have hn' : n = M.length := by
        have := (List.getElem?_eq_some_iff.mp e).1
        simp at this
        omega
      subst hn'
      simp at e
      subst e
      refine ⟨p, ?_, xs, hp, grow hd⟩
      rw [← R.len]
      simp
theorem Stp.note {p : Addr} (s : Stp H H' ρ ρ') (hp : H p = none) : Stp H H' ρ (ρ' ++ [p]) := by
  obtain ⟨l, e⟩ := s.pre
  refine ⟨⟨l ++ [p], by rw [e]; simp⟩, s.fr, fun a ha hn => ?_⟩
  rcases List.mem_append.mp ha with h | h
  · exact s.new a h hn
  · simp at h
    subst h
    exact hp
/-- a noted list is changed -/
theorem RelM.put {n : Nat} {a : Addr} {xs : List V} {ds : List D} (R : RelM K H ρ M) (ha : ρ[n]? = some a) (hd : DvAll K H ρ xs ds) :
    Stp H (upd H a (.lst xs)) ρ ρ ∧ RelM K (upd H a (.lst xs)) ρ (M.set n (.lst ds)) := by
  have ham : a ∈ ρ := List.mem_of_getElem? ha
  have s : Stp H (upd H a (.lst xs)) ρ ρ := by
    refine ⟨⟨[], by simp⟩, fun b o h hb => ?_, fun _ h h' => absurd h h'⟩
    rw [upd_ne (fun (e : b = a) => hb (e ▸ ham))]
    exact h
  refine ⟨s, by simp [R.len], R.nd, fun m o e => ?_⟩
  by_cases h : m = n
  · subst h
    have hl : m < M.length := by rw [← R.len]; exact (List.getElem?_eq_some_iff.mp ha).1
    rw [List.getElem?_set_self hl] at e
    cases e
    exact ⟨a, ha, xs, upd_same, DvAll.mono s R hd⟩
  · rw [List.getElem?_set_ne (Ne.symm h)] at e
    obtain ⟨b, hb, hr⟩ := R.ob m o e
    have hne : b ≠ a := fun z => by
      subst z
      obtain ⟨h1, e1⟩ := List.getElem?_eq_some_iff.mp hb
      obtain ⟨h2, e2⟩ := List.getElem?_eq_some_iff.mp ha
      exact h ((List.getElem_inj R.nd).mp (e1.trans e2.symm))
    refine ⟨b, hb, ?_⟩
    cases o with
    | lst ys =>
      obtain ⟨ws, hw, hd'⟩ := hr
      exact ⟨ws, by rw [upd_ne hne]; exact hw, DvAll.mono s R hd'⟩
end
end PV

-- PV2
namespace PV
open PySem PySem.Spec PyProof.Rows L2

/-! ### where one stands -/
/-- what stays through the whole text: the names by slot, the written part, the room -/
structure Stat where
  N : List Str
  K : PySem.W.Frag
  mg : Str → Option Value
  P : Program
  w : World
  base : Heap
  k : Nat
/-- the scope that runs is the scope of the text, but that a free name may be a cell -/
structure RelSc (sc sc' : Scope) : Prop where
  kind : sc'.kind = .function
  look : ∀ (x : Str) (k : NameKind), sc.names.lookup x = some k → ∃ k', sc'.names.lookup x = some k' ∧ (k' = k ∨ (k = .free ∧ k' = .cell))
structure XOk (S : Stat) (sc : Scope) (X : Cx) : Prop where
  N : X.N = S.N
  nd : S.N.Nodup
  K : X.K = S.K
  mg : X.mg = S.mg
  P : X.prog = S.P
  w : X.w = S.w
  base : X.base = S.base
  calm : X.calm = true
  room : Room S.k X.A
  rsc : RelSc sc X.env.scope
  fn : ∀ x, sc.names.lookup x = some .cell → X.fn x = true
  xe : X.xe = fun _ _ => False
  gd : X.A.guards = some []
def visB (sc : Scope) (x : Str) : Bool := match sc.names.lookup x with
  | some .local => true
  | some .cell => true
  | some .free => true
  | _ => false
def locB (sc : Scope) (x : Str) : Bool := match sc.names.lookup x with
  | some .local => true
  | some .cell => true
  | _ => false
def glB (sc : Scope) (x : Str) : Bool := match sc.names.lookup x with
  | some .globalImplicit => true
  | _ => false
section
variable {S : Stat} {sc : Scope} {X : Cx} {x : Str}
theorem XOk.vis (O : XOk S sc X) (h : visB sc x = true) : Vis X.env.scope x := by
  unfold visB at h
  split at h
  · rename_i e
    obtain ⟨k', e', q⟩ := O.rsc.look _ _ e
    rcases q with rfl | ⟨q, _⟩
    · exact .inl e'
    · cases q
  · rename_i e
    obtain ⟨k', e', q⟩ := O.rsc.look _ _ e
    rcases q with rfl | ⟨q, _⟩
    · exact .inr (.inl e')
    · cases q
  · rename_i e
    obtain ⟨k', e', q⟩ := O.rsc.look _ _ e
    rcases q with rfl | ⟨_, rfl⟩
    · exact .inr (.inr e')
    · exact .inr (.inl e')
  · cases h
theorem XOk.loc (O : XOk S sc X) (h : locB sc x = true) : Loc X.env.scope x ∧ (X.fn x = true ∨ X.env.scope.names.lookup x = some .local) := by
  unfold locB at h
  split at h
  · rename_i e
    obtain ⟨k', e', q⟩ := O.rsc.look _ _ e
    rcases q with rfl | ⟨q, _⟩
    · exact ⟨.inl e', .inr e'⟩
    · cases q
  · rename_i e
    obtain ⟨k', e', q⟩ := O.rsc.look _ _ e
    rcases q with rfl | ⟨q, _⟩
    · exact ⟨.inr e', .inl (O.fn _ e)⟩
    · cases q
  · cases h
theorem XOk.gl (O : XOk S sc X) (h : glB sc x = true) : Gl X x := by
  unfold glB at h
  split at h
  · rename_i e
    obtain ⟨k', e', q⟩ := O.rsc.look _ _ e
    rcases q with rfl | ⟨q, _⟩
    · exact e'
    · cases q
  · cases h
end

/-! ### the judgements -/
abbrev FE := Vars → Mem → Option (D × Mem)
abbrev FL := Vars → Mem → Option (List D × Mem)
abbrev FT := Vars → Mem → Option (Bool × Mem)
/-- the values by slot -/
structure EnvR (K : PySem.W.Frag) (H : Hp) (ρ : List Addr) (σ : L2.St) (env : Vars) : Prop where
  len : σ.length = env.length
  at_ : ∀ (i : Nat) (d : D), env[i]? = some (some d) → ∃ v, σ[i]? = some (some v) ∧ Dv K H ρ v d
theorem EnvR.mono {K : PySem.W.Frag} {H H' : Hp} {ρ ρ' : List Addr} {M : Mem} {σ : L2.St} {env : Vars} (E : EnvR K H ρ σ env) (s : Stp H H' ρ ρ') (R : RelM K H ρ M) : EnvR K H' ρ' σ env :=
  ⟨E.len, fun i d e => let ⟨v, h1, h2⟩ := E.at_ i d e; ⟨v, h1, h2.mono s R⟩⟩
theorem EnvR.set {K : PySem.W.Frag} {H : Hp} {ρ : List Addr} {σ : L2.St} {env : Vars} {v : V} {d : D} (E : EnvR K H ρ σ env) (r : Dv K H ρ v d) (i : Nat) : EnvR K H ρ (σ.set i (some v)) (env.set i (some d)) := by
  refine ⟨by simp [E.len], fun j e h => ?_⟩
  by_cases hij : i = j
  · subst hij
    have hl : i < env.length := by
      have := (List.getElem?_eq_some_iff.mp h).1
      simpa using this
    rw [List.getElem?_set_self hl] at h
    cases h
    exact ⟨v, by rw [List.getElem?_set_self (by rw [E.len]; exact hl)], r⟩
  · rw [List.getElem?_set_ne hij] at h
    obtain ⟨u, h1, h2⟩ := E.at_ j e h
    exact ⟨u, by rw [List.getElem?_set_ne hij]; exact h1, h2⟩

/-- the reading te gives d, and leaves M' -/
def EvX (K : PySem.W.Frag) (te : TE) (σ : L2.St) (H : Hp) (ρ : List Addr) (d : D) (M' : Mem) : Prop :=
  ∀ Q : VK, (∀ v H' ρ', Stp H H' ρ ρ' → RelM K H' ρ' M' → Dv K H' ρ' v d → Q v H') → te σ H Q
/-- .. a new list, not noted -/
def EvF (K : PySem.W.Frag) (te : TE) (σ : L2.St) (H : Hp) (ρ : List Addr) (ds : List D) (M' : Mem) : Prop :=
  ∀ Q : VK, (∀ p vs H' ρ', Stp H H' ρ ρ' → RelM K H' ρ' M' → H' p = some (.lst vs) → p ∉ ρ' → H p = none → DvAll K H' ρ' vs ds → Q (.ref p) H') → te σ H Q
def EvT (K : PySem.W.Frag) (tt : TT) (σ : L2.St) (H : Hp) (ρ : List Addr) (b : Bool) (M' : Mem) : Prop :=
  ∀ Q : Bool → Hp → Prop, (∀ H' ρ', Stp H H' ρ ρ' → RelM K H' ρ' M' → Q b H') → tt σ H Q
def EvA (K : PySem.W.Frag) (ta : TA) (σ : L2.St) (H : Hp) (ρ : List Addr) (ds : List D) (M' : Mem) : Prop :=
  ∀ Q : List V → Hp → Prop, (∀ vs H' ρ', Stp H H' ρ ρ' → RelM K H' ρ' M' → DvAll K H' ρ' vs ds → Q vs H') → ta σ H Q
def SE (S : Stat) (sc : Scope) (e : Expr) (f : FE) : Prop := ∃ te, (∀ X, XOk S sc X → PE X e te) ∧
  ∀ σ env H ρ M d M', EnvR S.K H ρ σ env → RelM S.K H ρ M → f env M = some (d, M') → EvX S.K te σ H ρ d M'
def SF (S : Stat) (sc : Scope) (e : Expr) (f : FL) : Prop := ∃ te, (∀ X, XOk S sc X → PE X e te) ∧
  ∀ σ env H ρ M d M', EnvR S.K H ρ σ env → RelM S.K H ρ M → f env M = some (d, M') → EvF S.K te σ H ρ d M'
def ST (S : Stat) (sc : Scope) (e : Expr) (f : FT) : Prop := ∃ tt, (∀ X, XOk S sc X → PT X e tt) ∧
  ∀ σ env H ρ M b M', EnvR S.K H ρ σ env → RelM S.K H ρ M → f env M = some (b, M') → EvT S.K tt σ H ρ b M'
def SA (S : Stat) (sc : Scope) (es : List Expr) (f : FL) : Prop := ∃ ta, (∀ X, XOk S sc X → PA X es ta) ∧
  ∀ σ env H ρ M d M', EnvR S.K H ρ σ env → RelM S.K H ρ M → f env M = some (d, M') → EvA S.K ta σ H ρ d M'

/-! ### the pieces of functions -/
def bindO {α β : Type} (x : Option (α × Mem)) (g : α → Mem → Option β) : Option β := match x with
  | some (a, M) => g a M
  | none => none
theorem bindO_some {α β : Type} {x : Option (α × Mem)} {g : α → Mem → Option β} {b : β} (h : bindO x g = some b) : ∃ a M, x = some (a, M) ∧ g a M = some b := by
  unfold bindO at h
  split at h
  · exact ⟨_, _, rfl, h⟩
  · cases h
def pairO (d : Option D) (M : Mem) : Option (D × Mem) := match d with
  | some d => some (d, M)
  | none => none
theorem pairO_some {d : Option D} {M M' : Mem} {e : D} (h : pairO d M = some (e, M')) : d = some e ∧ M = M' := by
  unfold pairO at h
  split at h
  · cases h
    exact ⟨rfl, rfl⟩
  · cases h

section
variable {S : Stat} {sc : Scope} {e e1 e2 : Expr} {es : List Expr} {pos : Pos}
/-! ### constants, names -/
def fC (d : D) : FE := fun _ M => some (d, M)
theorem evx_val {K : PySem.W.Frag} {te : TE} {σ : L2.St} {H : Hp} {ρ : List Addr} {d : D} {M : Mem} {v : V} (R : RelM K H ρ M) (r : Dv K H ρ v d) (h : ∀ Q : VK, Q v H → te σ H Q) : EvX K te σ H ρ d M :=
  fun Q q => h Q (q v H ρ .refl R r)
theorem se_int {i j} : SE S sc (.Constant (.int i) j pos) (fC (.int i)) := ⟨_, fun X _ => pe_int, fun σ env H ρ M d M' E R h => by cases h; exact evx_val R (.int i) fun Q q => q⟩
theorem se_bl {b j} : SE S sc (.Constant (.bool b) j pos) (fC (.bl b)) := ⟨_, fun X _ => pe_bl, fun σ env H ρ M d M' E R h => by cases h; exact evx_val R (.bl b) fun Q q => q⟩
theorem se_non {j} : SE S sc (.Constant .none j pos) (fC .non) := ⟨_, fun X _ => pe_non, fun σ env H ρ M d M' E R h => by cases h; exact evx_val R .non fun Q q => q⟩
theorem se_str {x j} : SE S sc (.Constant (.str x) j pos) (fC (.str x)) := ⟨_, fun X _ => pe_str, fun σ env H ρ M d M' E R h => by cases h; exact evx_val R (.str x) fun Q q => q⟩
def fV (i : Nat) : FE := fun env M => match env[i]? with
  | some (some d) => some (d, M)
  | _ => none
theorem se_var (i : Nat) {x : Str} (hN : S.N[i]? = some x) (hv : visB sc x = true) (hd : (x == ("__debug__" : Str)) = false := by decide) (hcd : (x == ("__classdict__" : Str)) = false := by decide) : SE S sc (.Name x pos) (fV i) := by
  refine ⟨tVar i, fun X O => pe_var (by rw [O.N]; exact hN) (O.vis hv) hd hcd, fun σ env H ρ M d M' E R h => ?_⟩
  unfold fV at h
  split at h
  · rename_i d' e
    cases h
    obtain ⟨v, h1, h2⟩ := E.at_ i _ e
    exact fun Q q => ⟨v, h1, q v H ρ .refl R h2⟩
  · cases h
/-- a module's constant -/
def GlobD (S : Stat) (x : Str) (d : D) : Prop := ∃ (v : V) (u : Value), S.mg x = some u ∧ RelV v u ∧ ∀ H ρ, Dv S.K H ρ v d
theorem se_glob {x : Str} {d : D} (hg : GlobD S x d) (hs : glB sc x = true) (hd : (x == ("__debug__" : Str)) = false := by decide) : SE S sc (.Name x pos) (fC d) := by
  obtain ⟨v, u, h1, h2, h3⟩ := hg
  refine ⟨tC v, fun X O => pe_glob (O.gl hs) (by rw [O.mg]; exact h1) h2 hd, fun σ env H ρ M d' M' E R h => ?_⟩
  cases h
  exact evx_val R (h3 H ρ) fun Q q => q

/-! ### arguments -/
def fNil : FL := fun _ M => some ([], M)
def fCons (f : FE) (g : FL) : FL := fun env M => bindO (f env M) fun d M1 => bindO (g env M1) fun ds M2 => some (d :: ds, M2)
theorem sa_nil : SA S sc [] fNil := ⟨_, fun X _ => pa_nil, fun σ env H ρ M d M' E R h => by cases h; exact fun Q q => q [] H ρ .refl R .nil⟩
theorem sa_cons {f : FE} {g : FL} (h1 : SE S sc e f) (h2 : SA S sc es g) (hs : ∀ env, starEach (e :: es) env = (false, eval e env) :: starEach es env := by intro _; rfl) : SA S sc (e :: es) (fCons f g) := by
  obtain ⟨te, p1, s1⟩ := h1
  obtain ⟨ta, p2, s2⟩ := h2
  refine ⟨tCons te ta, fun X O => pa_cons (p1 X O) (p2 X O) (hs _), fun σ env H ρ M d M' E R h => ?_⟩
  obtain ⟨d1, M1, e1, h⟩ := bindO_some h
  obtain ⟨ds, M2, e2, h⟩ := bindO_some h
  cases h
  refine fun Q q => s1 σ env H ρ M d1 _ E R e1 _ fun v H1 ρ1 st1 R1 r1 => ?_
  refine s2 σ env H1 ρ1 _ ds _ (E.mono st1 R) R1 e2 _ fun vs H2 ρ2 st2 R2 r2 => ?_
  exact q (v :: vs) H2 ρ2 (st1.trans st2) R2 (.cons (r1.mono st2 R1) r2)

/-! ### a new list is noted -/
def fNote (f : FL) : FE := fun env M => bindO (f env M) fun ds M1 => some (.ref M1.length, M1 ++ [.lst ds])
theorem se_note {f : FL} (h : SF S sc e f) : SE S sc e (fNote f) := by
  obtain ⟨te, p, s⟩ := h
  refine ⟨te, p, fun σ env H ρ M d M' E R h => ?_⟩
  obtain ⟨ds, M1, e1, h⟩ := bindO_some h
  cases h
  refine fun Q q => s σ env H ρ M _ _ E R e1 _ fun a vs H' ρ' st R1 hp hn hf hd => ?_
  exact q (.ref a) H' (ρ' ++ [a]) (st.note hf) (R1.note hp hn hd) (.ref (by rw [← R1.len]; simp))

/-! ### displays -/
def fTup (f : FL) : FE := fun env M => bindO (f env M) fun ds M1 => if ds.length ≤ 100000 then some (.tup ds, M1) else none
theorem se_tup {f : FL} {c} (h : SA S sc es f) : SE S sc (.Tuple es c pos) (fTup f) := by
  obtain ⟨ta, p, s⟩ := h
  refine ⟨tTup ta, fun X O => pe_tup (p X O), fun σ env H ρ M d M' E R h => ?_⟩
  obtain ⟨ds, M1, e1, h⟩ := bindO_some h
  split at h
  · rename_i hl
    cases h
    refine fun Q q => s σ env H ρ M _ _ E R e1 _ fun vs H1 ρ1 st R1 r => ⟨?_, fun a ha => ?_⟩
    · rw [r.length]
      exact Nat.le_trans hl (by decide)
    · exact q (.ref a) _ ρ1 (st.trans (.laid ha)) (R1.laid ha) (.tup (.inl (.inl upd_same)) (r.mono (.laid ha) R1))
  · cases h
def fLst (f : FL) : FL := fun env M => bindO (f env M) fun ds M1 => if ds.length ≤ 100000 then some (ds, M1) else none
theorem sf_lst {f : FL} (h : SA S sc es f) : SF S sc (.List es pos) (fLst f) := by
  obtain ⟨ta, p, s⟩ := h
  refine ⟨tLst ta, fun X O => pe_lst (p X O), fun σ env H ρ M d M' E R h => ?_⟩
  obtain ⟨ds, M1, e1, h⟩ := bindO_some h
  split at h
  · rename_i hl
    cases h
    refine fun Q q => s σ env H ρ M _ _ E R e1 _ fun vs H1 ρ1 st R1 r => ⟨?_, fun a ha => ?_⟩
    · rw [r.length]
      exact Nat.le_trans hl (by decide)
    · refine q a vs _ ρ1 (st.trans (.laid ha)) (R1.laid ha) upd_same (fun hm => ?_) ?_ (r.mono (.laid ha) R1)
      · obtain ⟨o, ho, _⟩ := R1.mem hm
        rw [ha] at ho
        cases ho
      · cases e : H a with
        | none => rfl
        | some o =>
          by_cases hm : a ∈ ρ
          · obtain ⟨l, rfl⟩ := st.pre
            obtain ⟨o', ho', _⟩ := R1.mem (List.mem_append_left _ hm)
            rw [ha] at ho'
            cases ho'
          · rw [st.fr a o e hm] at ha
            cases ha
  · cases h
end
end PV

-- PV3
namespace PV
open PySem PySem.Spec PyProof.Rows L2

/-! ### operators by values -/
def orO {α : Type} (x y : Option α) : Option α := match x with
  | some d => some d
  | none => y
/-- what a two-place operation gives, the memory as it was -/
def OpD (S : Stat) (f : Value → Value → Sem Value) (g : Mem → D → D → Option D) : Prop := ∃ r : R2, (∀ sc X, XOk S sc X → OpR X f r) ∧
  ∀ H ρ M x y a b d, RelM S.K H ρ M → Dv S.K H ρ x a → Dv S.K H ρ y b → g M a b = some d →
    ∀ Q : VK, (∀ v H', Stp H H' ρ ρ → RelM S.K H' ρ M → Dv S.K H' ρ v d → Q v H') → r x y H Q
section
variable {S : Stat} {sc : Scope} {e a b c : Expr} {es : List Expr} {pos : Pos} {f : Value → Value → Sem Value} {g g' : Mem → D → D → Option D}
theorem OpD.or (h : OpD S f g) (h' : OpD S f g') : OpD S f (fun M x y => orO (g M x y) (g' M x y)) := by
  obtain ⟨r, p, s⟩ := h
  obtain ⟨r', p', s'⟩ := h'
  refine ⟨fun x y H Q => r x y H Q ∨ r' x y H Q, fun sc X O => OpR.or (p sc X O) (p' sc X O), fun H ρ M x y a b d R ra rb e Q q => ?_⟩
  have e : orO (g M a b) (g' M a b) = some d := e
  unfold orO at e
  split at e
  · rename_i e1
    cases e
    exact .inl (s H ρ M x y a b _ R ra rb e1 Q q)
  · exact .inr (s' H ρ M x y a b d R ra rb e Q q)
/-- a value out of the operation without a change of the heap -/
theorem opd_val {r : R2} (p : ∀ sc X, XOk S sc X → OpR X f r)
    (s : ∀ H ρ M x y a b d, RelM S.K H ρ M → Dv S.K H ρ x a → Dv S.K H ρ y b → g M a b = some d → ∃ v, Dv S.K H ρ v d ∧ ∀ Q : VK, Q v H → r x y H Q) : OpD S f g :=
  ⟨r, p, fun H ρ M x y a b d R ra rb e Q q => let ⟨v, h1, h2⟩ := s H ρ M x y a b d R ra rb e; h2 Q (q v H .refl R h1)⟩
/-! ints -/
def gII (c : Int → Int → Bool) (k : Int → Int → D) : Mem → D → D → Option D := fun _ a b => match a, b with
  | .int i, .int j => if c i j = true then some (k i j) else none
  | _, _ => none
def toV : D → V
  | .bl b => .bl b
  | .int i => .int i
  | .str x => .str x
  | _ => .non
def flatD : D → Bool
  | .non => true
  | .bl _ => true
  | .int _ => true
  | .str _ => true
  | _ => false
theorem dv_flat {K : PySem.W.Frag} {H : Hp} {ρ : List Addr} {d : D} (h : flatD d = true) : Dv K H ρ (toV d) d := by
  cases d with
  | non => exact .non
  | bl b => exact .bl b
  | int i => exact .int i
  | str x => exact .str x
  | tup _ => cases h
  | ref _ => cases h
  | cl _ => cases h
  | emp => cases h
theorem dv_flat_eq {K : PySem.W.Frag} {H : Hp} {ρ : List Addr} {d : D} {v : V} (h : flatD d = true) (r : Dv K H ρ v d) : v = toV d := by
  cases r <;> first | rfl | cases h
theorem opd_II {C : Int → Int → Prop} {c : Int → Int → Bool} {k : Int → Int → D} {k' : Int → Int → V} (hk : ∀ i j, flatD (k i j) = true) (hk2 : ∀ i j, toV (k i j) = k' i j) (hc : ∀ i j, c i j = true → C i j)
    (p : ∀ sc X, XOk S sc X → OpR X f (rI C k')) : OpD S f (gII c k) := opd_val p fun H ρ M x y a b d R ra rb e => by
  unfold gII at e
  split at e
  · rename_i i j
    split at e
    · rename_i h
      cases e
      cases ra
      cases rb
      exact ⟨_, by rw [← hk2]; exact dv_flat (hk i j), fun Q q => ⟨i, j, rfl, rfl, hc i j h, q⟩⟩
    · cases e
  · cases e
theorem opd_II0 {k : Int → Int → D} {k' : Int → Int → V} (hk : ∀ i j, flatD (k i j) = true) (hk2 : ∀ i j, toV (k i j) = k' i j)
    (p : ∀ sc X, XOk S sc X → OpR X f (rI0 k')) : OpD S f (gII (fun _ _ => true) k) := opd_val p fun H ρ M x y a b d R ra rb e => by
  unfold gII at e
  split at e
  · rename_i i j
    cases e
    cases ra
    cases rb
    exact ⟨_, by rw [← hk2]; exact dv_flat (hk i j), fun Q q => ⟨i, j, rfl, rfl, q⟩⟩
  · cases e
def gAddI := gII (fun _ _ => true) fun i j => .int (i + j)
def gSubI := gII (fun _ _ => true) fun i j => .int (i - j)
def smallI (i : Int) : Bool := decide (-(2 ^ 64) < i) && decide (i < 2 ^ 64)
def gMulI := gII (fun i j => smallI i || smallI j) fun i j => .int (i * j)
def gDivI := gII (fun _ j => decide (0 < j) && decide (j < 1073741824)) fun i j => .int (i / j)
def gModI := gII (fun _ j => decide (0 < j)) fun i j => .int (i % j)
def gPowI := gII (fun i j => decide (0 ≤ j) && decide (j ≤ 1000000) && decide (i.natAbs < 2 ^ 64)) fun i j => .int (i ^ j.toNat)
theorem opd_addI : OpD S (binaryOp .Add) gAddI := opd_II0 (fun _ _ => rfl) (fun _ _ => rfl) fun sc X _ => op_add
theorem opd_subI : OpD S (binaryOp .Sub) gSubI := opd_II0 (fun _ _ => rfl) (fun _ _ => rfl) fun sc X _ => op_sub
theorem opd_mulI : OpD S (binaryOp .Mult) gMulI := opd_II (fun _ _ => rfl) (fun _ _ => rfl) (fun i j h => by
  simp only [smallI, Bool.or_eq_true, Bool.and_eq_true, decide_eq_true_eq] at h
  exact h) fun sc X _ => op_mul
theorem opd_divI : OpD S (binaryOp .FloorDiv) gDivI := opd_II (fun _ _ => rfl) (fun _ _ => rfl) (fun i j h => by
  simp only [Bool.and_eq_true, decide_eq_true_eq] at h
  exact h) fun sc X _ => op_fdiv
theorem opd_modI : OpD S (binaryOp .Mod) gModI := opd_II (fun _ _ => rfl) (fun _ _ => rfl) (fun i j h => by
  simpa using h) fun sc X _ => op_mod
theorem opd_powI : OpD S (binaryOp .Pow) gPowI := opd_II (fun _ _ => rfl) (fun _ _ => rfl) (fun i j h => by
  simp only [Bool.and_eq_true, decide_eq_true_eq] at h
  exact ⟨h.1.1, h.1.2, h.2⟩) fun sc X _ => op_pow
def gLtI := gII (fun _ _ => true) fun i j => .bl (decide (i < j))
def gLeI := gII (fun _ _ => true) fun i j => .bl (decide (i ≤ j))
def gGtI := gII (fun _ _ => true) fun i j => .bl (decide (j < i))
def gGeI := gII (fun _ _ => true) fun i j => .bl (decide (j ≤ i))
theorem opd_ltI : OpD S (compareOp .Lt) gLtI := opd_II0 (fun _ _ => rfl) (fun _ _ => rfl) fun sc X _ => op_lt
theorem opd_leI : OpD S (compareOp .LtE) gLeI := opd_II0 (fun _ _ => rfl) (fun _ _ => rfl) fun sc X _ => op_le
theorem opd_gtI : OpD S (compareOp .Gt) gGtI := opd_II0 (fun _ _ => rfl) (fun _ _ => rfl) fun sc X _ => op_gt
theorem opd_geI : OpD S (compareOp .GtE) gGeI := opd_II0 (fun _ _ => rfl) (fun _ _ => rfl) fun sc X _ => op_ge
/-! texts -/
def gAddS : Mem → D → D → Option D := fun _ a b => match a, b with
  | .str x, .str y => if x.length + y.length ≤ 100000 then some (.str (x ++ y)) else none
  | _, _ => none
theorem opd_addS : OpD S (binaryOp .Add) gAddS := opd_val (fun sc X _ => op_add_str) fun H ρ M x y a b d R ra rb e => by
  unfold gAddS at e
  split at e
  · rename_i i j
    split at e
    · rename_i h
      cases e
      cases ra
      cases rb
      exact ⟨_, .str _, fun Q q => ⟨i, j, rfl, rfl, Nat.le_trans h (by decide), q⟩⟩
    · cases e
  · cases e
/-- one sign in a text -/
def gInC (neg : Bool) : Mem → D → D → Option D := fun _ a b => match a, b with
  | .str x, .str y => match x.cps.toList with
    | [c] => some (.bl (if neg then !decide (c ∈ y.cps.toList) else decide (c ∈ y.cps.toList)))
    | _ => none
  | _, _ => none
theorem str_one {x : Str} {c : Nat} (h : x.cps.toList = [c]) : x = ⟨#[c]⟩ := by
  obtain ⟨⟨l⟩⟩ := x
  simp only at h
  subst h
  rfl
theorem opd_inC : OpD S (compareOp .In) (gInC false) := opd_val (fun sc X _ => op_in_sign) fun H ρ M x y a b d R ra rb e => by
  unfold gInC at e
  split at e
  · rename_i i j
    split at e
    · rename_i c hc
      cases e
      cases ra
      cases rb
      exact ⟨_, .bl _, fun Q q => ⟨c, j, by rw [str_one hc], rfl, q⟩⟩
    · cases e
  · cases e
theorem opd_ninC : OpD S (compareOp .NotIn) (gInC true) := opd_val (fun sc X _ => op_notIn_sign) fun H ρ M x y a b d R ra rb e => by
  unfold gInC at e
  split at e
  · rename_i i j
    split at e
    · rename_i c hc
      cases e
      cases ra
      cases rb
      exact ⟨_, .bl _, fun Q q => ⟨c, j, by rw [str_one hc], rfl, q⟩⟩
    · cases e
  · cases e
/-! tuples -/
def gAddT : Mem → D → D → Option D := fun _ a b => match a, b with
  | .tup xs, .tup ys => if xs.length + ys.length ≤ 100000 then some (.tup (xs ++ ys)) else none
  | _, _ => none
theorem opd_addT : OpD S (binaryOp .Add) gAddT := ⟨rCatA S.K, fun sc X O => by rw [← O.K]; exact op_catA, fun H ρ M x y a b d R ra rb e Q q => by
  unfold gAddT at e
  split at e
  · rename_i ds es
    split at e
    · rename_i h
      cases e
      cases ra with
      | tup s1 d1 =>
        rename_i a1 xs
        cases rb with
        | tup s2 d2 =>
          rename_i a2 ys
          refine ⟨a1, a2, xs, ys, rfl, rfl, s1, s2, ?_, fun hx => ?_, fun hx hy => ?_, fun hx hy p hp => ?_⟩
          · rw [d1.length, d2.length]
            exact Nat.le_trans h (by decide)
          · subst hx
            cases d1
            exact q _ H .refl R (.tup s2 d2)
          · subst hy
            cases d2
            rw [List.append_nil] at q
            exact q _ H .refl R (.tup s1 d1)
          · exact q _ _ (.laid hp) (R.laid hp) (.tup (.inl (.inl upd_same)) ((d1.append d2).mono (.laid hp) R))
    · cases e
  · cases e⟩
/-- (x,) * n -/
def gRepT : Mem → D → D → Option D := fun _ a b => match a, b with
  | .tup xs, .int k => if xs.isEmpty = false ∧ xs.length ≤ 1000 ∧ 2 ≤ k ∧ k ≤ 1000 then some (.tup (List.replicate k.toNat xs).flatten) else none
  | _, _ => none
theorem dv_rep {K : PySem.W.Frag} {H : Hp} {ρ : List Addr} {vs : List V} {ds : List D} (h : DvAll K H ρ vs ds) : ∀ n : Nat, DvAll K H ρ (List.replicate n vs).flatten (List.replicate n ds).flatten
  | 0 => .nil
  | n + 1 => by
    rw [List.replicate_succ, List.replicate_succ, List.flatten_cons, List.flatten_cons]
    exact h.append (dv_rep h n)
theorem opd_repT : OpD S (binaryOp .Mult) gRepT := ⟨rRepT S.K, fun sc X O => by rw [← O.K]; exact op_repT, fun H ρ M x y a b d R ra rb e Q q => by
  unfold gRepT at e
  split at e
  · rename_i ds k
    split at e
    · rename_i h
      cases e
      cases rb
      cases ra with
      | tup s1 d1 =>
        rename_i a1 xs
        obtain ⟨h1, h2, h3, h4⟩ := h
        refine ⟨a1, k, xs, rfl, rfl, s1, ?_, h3, h4, by rw [d1.length]; exact h2, fun p hp => ?_⟩
        · intro z
          subst z
          cases d1
          cases h1
        · exact q _ _ (.laid hp) (R.laid hp) (.tup (.inl (.inl upd_same)) ((dv_rep d1 _).mono (.laid hp) R))
    · cases e
  · cases e⟩
/-! None -/
def gIsN (neg : Bool) : Mem → D → D → Option D := fun _ a b => match b with
  | .non => match a with
    | .non => some (.bl (!neg))
    | _ => some (.bl neg)
  | _ => none
theorem dec_non {K : PySem.W.Frag} {H : Hp} {ρ : List Addr} {v : V} {d : D} (r : Dv K H ρ v d) : decide (v = V.non) = (match d with | .non => true | _ => false) := by
  cases r <;> rfl
theorem opd_isN : OpD S (compareOp .Is) (gIsN false) := opd_val (fun sc X _ => op_isN) fun H ρ M x y a b d R ra rb e => by
  unfold gIsN at e
  split at e
  · cases rb
    have z := dec_non ra
    split at e
    · cases e
      exact ⟨_, .bl _, fun Q q => ⟨rfl, by rw [z]; exact q⟩⟩
    · rename_i hn
      cases e
      refine ⟨_, .bl _, fun Q q => ⟨rfl, ?_⟩⟩
      rw [z]
      cases a <;> first | exact q | exact absurd rfl hn
  · cases e
theorem opd_notN : OpD S (compareOp .IsNot) (gIsN true) := opd_val (fun sc X _ => op_notN) fun H ρ M x y a b d R ra rb e => by
  unfold gIsN at e
  split at e
  · cases rb
    have z := dec_non ra
    split at e
    · cases e
      exact ⟨_, .bl _, fun Q q => ⟨rfl, by rw [z]; exact q⟩⟩
    · rename_i hn
      cases e
      refine ⟨_, .bl _, fun Q q => ⟨rfl, ?_⟩⟩
      rw [z]
      cases a <;> first | exact q | exact absurd rfl hn
  · cases e

/-! ### expressions of them -/
def fOp (g : Mem → D → D → Option D) (fa fb : FE) : FE := fun env M => bindO (fa env M) fun x M1 => bindO (fb env M1) fun y M2 => pairO (g M2 x y) M2
theorem sem_op {r : R2} (s : ∀ H ρ M x y a b d, RelM S.K H ρ M → Dv S.K H ρ x a → Dv S.K H ρ y b → g M a b = some d → ∀ Q : VK, (∀ v H', Stp H H' ρ ρ → RelM S.K H' ρ M → Dv S.K H' ρ v d → Q v H') → r x y H Q)
    {ta tb : TE} {fa fb : FE} (sa : ∀ σ env H ρ M d M', EnvR S.K H ρ σ env → RelM S.K H ρ M → fa env M = some (d, M') → EvX S.K ta σ H ρ d M') (sb : ∀ σ env H ρ M d M', EnvR S.K H ρ σ env → RelM S.K H ρ M → fb env M = some (d, M') → EvX S.K tb σ H ρ d M')
    (σ env H ρ M d M') (E : EnvR S.K H ρ σ env) (R : RelM S.K H ρ M) (h : fOp g fa fb env M = some (d, M')) : EvX S.K (tOp r ta tb) σ H ρ d M' := by
  obtain ⟨x, M1, e1, h⟩ := bindO_some h
  obtain ⟨y, M2, e2, h⟩ := bindO_some h
  obtain ⟨e3, rfl⟩ := pairO_some h
  refine fun Q q => sa σ env H ρ M _ _ E R e1 _ fun v H1 ρ1 st1 R1 r1 => ?_
  refine sb σ env H1 ρ1 _ _ _ (E.mono st1 R) R1 e2 _ fun u H2 ρ2 st2 R2 r2 => ?_
  refine s H2 ρ2 _ v u x y d R2 (r1.mono st2 R1) r2 e3 Q fun z H3 st3 R3 r3 => ?_
  exact q z H3 ρ2 ((st1.trans st2).trans st3) R3 r3
theorem se_bin {op : Operator} {fa fb : FE} (ho : OpD S (binaryOp op) g) (ha : SE S sc a fa) (hb : SE S sc b fb) : SE S sc (.BinOp a op b pos) (fOp g fa fb) := by
  obtain ⟨r, p, s⟩ := ho
  obtain ⟨ta, pa, sa⟩ := ha
  obtain ⟨tb, pb, sb⟩ := hb
  exact ⟨tOp r ta tb, fun X O => pe_op (p sc X O) (pa X O) (pb X O), sem_op s sa sb⟩
theorem se_cmp {op : CmpOp} {fa fb : FE} (ho : OpD S (compareOp op) g) (ha : SE S sc a fa) (hb : SE S sc b fb) (hm : behindInMarks op b = false := by rfl) : SE S sc (.Compare a [op] [b] pos) (fOp g fa fb) := by
  obtain ⟨r, p, s⟩ := ho
  obtain ⟨ta, pa, sa⟩ := ha
  obtain ⟨tb, pb, sb⟩ := hb
  exact ⟨tOp r ta tb, fun X O => pe_cmpR (p sc X O) (pa X O) (pb X O) hm, sem_op s sa sb⟩
/-- a value that is a bool, as a test -/
def fTest (f : FE) : FT := fun env M => bindO (f env M) fun d M1 => match d with
  | .bl b => some (b, M1)
  | _ => none
theorem st_tB {te : TE} {fe : FE} (s : ∀ σ env H ρ M d M', EnvR S.K H ρ σ env → RelM S.K H ρ M → fe env M = some (d, M') → EvX S.K te σ H ρ d M')
    (σ env H ρ M b M') (E : EnvR S.K H ρ σ env) (R : RelM S.K H ρ M) (h : fTest fe env M = some (b, M')) : EvT S.K (fun σ H Q => te σ H fun x H1 => ∃ c, x = .bl c ∧ Q c H1) σ H ρ b M' := by
  obtain ⟨x, M1, e1, h⟩ := bindO_some h
  split at h
  · cases h
    refine fun Q q => s σ env H ρ M _ _ E R e1 _ fun v H1 ρ1 st1 R1 r1 => ?_
    cases r1
    exact ⟨_, rfl, q H1 ρ1 st1 R1⟩
  · cases h
theorem st_cmp {op : CmpOp} {fa fb : FE} (ho : OpD S (compareOp op) g) (ha : SE S sc a fa) (hb : SE S sc b fb) (hm : behindInMarks op b = false := by rfl) : ST S sc (.Compare a [op] [b] pos) (fTest (fOp g fa fb)) := by
  obtain ⟨r, p, s⟩ := ho
  obtain ⟨ta, pa, sa⟩ := ha
  obtain ⟨tb, pb, sb⟩ := hb
  exact ⟨tTest (tOp r ta tb), fun X O => pt_cmpR (p sc X O) (pa X O) (pb X O) hm, st_tB (sem_op s sa sb)⟩
theorem st_val {fe : FE} (h : SE S sc e fe) (he : ∀ env whole, isTrue e env whole = (do let v ← whole; standAt e.pos; holding [v] (truthy v)) := by intro _ _; rfl) : ST S sc e (fTest fe) := by
  obtain ⟨te, p, s⟩ := h
  exact ⟨tB te, fun X O => pt_val (p X O) (he _), st_tB s⟩
/-! not, and, or -/
def fNotT (f : FT) : FT := fun env M => bindO (f env M) fun b M1 => some (!b, M1)
theorem st_not {f : FT} (h : ST S sc a f) : ST S sc (.UnaryOp .Not a pos) (fNotT f) := by
  obtain ⟨t, p, s⟩ := h
  refine ⟨tNot t, fun X O => pt_not (p X O), fun σ env H ρ M b M' E R h => ?_⟩
  obtain ⟨x, M1, e1, h⟩ := bindO_some h
  cases h
  exact fun Q q => s σ env H ρ M _ _ E R e1 _ fun H1 ρ1 st1 R1 => q H1 ρ1 st1 R1
def fAndT (f g : FT) : FT := fun env M => bindO (f env M) fun b M1 => match b with
  | true => g env M1
  | false => some (false, M1)
def fOrT (f g : FT) : FT := fun env M => bindO (f env M) fun b M1 => match b with
  | true => some (true, M1)
  | false => g env M1
/-- a test whatever its whole is -/
def STw (S : Stat) (sc : Scope) (e : Expr) (f : FT) : Prop := ∃ tt, (∀ X, XOk S sc X → PW X e tt) ∧
  ∀ σ env H ρ M b M', EnvR S.K H ρ σ env → RelM S.K H ρ M → f env M = some (b, M') → EvT S.K tt σ H ρ b M'
theorem STw.st {f : FT} (h : STw S sc e f) : ST S sc e f := let ⟨t, p, s⟩ := h; ⟨t, fun X O => (p X O).pt, s⟩
theorem stw_and1 {f : FT} (h : ST S sc a f) : STw S sc (.BoolOp .And [a] pos) f := let ⟨t, p, s⟩ := h; ⟨t, fun X O => pw_and1 (p X O), s⟩
theorem stw_or1 {f : FT} (h : ST S sc a f) : STw S sc (.BoolOp .Or [a] pos) f := let ⟨t, p, s⟩ := h; ⟨t, fun X O => pw_or1 (p X O), s⟩
theorem stw_and {f f' : FT} (h : ST S sc a f) (h' : STw S sc (.BoolOp .And (b :: es) pos) f') : STw S sc (.BoolOp .And (a :: b :: es) pos) (fAndT f f') := by
  obtain ⟨t, p, s⟩ := h
  obtain ⟨t', p', s'⟩ := h'
  refine ⟨tAnd t t', fun X O => pw_and (p X O) (p' X O), fun σ env H ρ M b M' E R h => ?_⟩
  obtain ⟨x, M1, e1, h⟩ := bindO_some h
  refine fun Q q => s σ env H ρ M _ _ E R e1 _ fun H1 ρ1 st1 R1 => ?_
  cases x with
  | true => exact s' σ env H1 ρ1 _ _ _ (E.mono st1 R) R1 h _ fun H2 ρ2 st2 R2 => q H2 ρ2 (st1.trans st2) R2
  | false =>
    cases h
    exact q H1 ρ1 st1 R1
theorem stw_or {f f' : FT} (h : ST S sc a f) (h' : STw S sc (.BoolOp .Or (b :: es) pos) f') : STw S sc (.BoolOp .Or (a :: b :: es) pos) (fOrT f f') := by
  obtain ⟨t, p, s⟩ := h
  obtain ⟨t', p', s'⟩ := h'
  refine ⟨L2.tOr t t', fun X O => pw_or (p X O) (p' X O), fun σ env H ρ M b M' E R h => ?_⟩
  obtain ⟨x, M1, e1, h⟩ := bindO_some h
  refine fun Q q => s σ env H ρ M _ _ E R e1 _ fun H1 ρ1 st1 R1 => ?_
  cases x with
  | false => exact s' σ env H1 ρ1 _ _ _ (E.mono st1 R) R1 h _ fun H2 ρ2 st2 R2 => q H2 ρ2 (st1.trans st2) R2
  | true =>
    cases h
    exact q H1 ρ1 st1 R1
/-! .. as values -/
def fAndV (f g : FE) : FE := fun env M => bindO (f env M) fun d M1 => match d with
  | .bl true => g env M1
  | .bl false => some (.bl false, M1)
  | _ => none
def fOrV (f g : FE) : FE := fun env M => bindO (f env M) fun d M1 => match d with
  | .bl true => some (.bl true, M1)
  | .bl false => g env M1
  | _ => none
def fNotV (f : FE) : FE := fun env M => bindO (f env M) fun d M1 => match d with
  | .bl b => some (.bl (!b), M1)
  | _ => none
theorem se_one {op} {f : FE} (h : SE S sc a f) : SE S sc (.BoolOp op [a] pos) f := let ⟨t, p, s⟩ := h; ⟨t, fun X O => pe_one (p X O), s⟩
theorem se_and {f f' : FE} (h : SE S sc a f) (h' : SE S sc (.BoolOp .And (b :: es) pos) f') : SE S sc (.BoolOp .And (a :: b :: es) pos) (fAndV f f') := by
  obtain ⟨t, p, s⟩ := h
  obtain ⟨t', p', s'⟩ := h'
  refine ⟨tAndV t t', fun X O => pe_and (p X O) (p' X O), fun σ env H ρ M b M' E R h => ?_⟩
  obtain ⟨x, M1, e1, h⟩ := bindO_some h
  refine fun Q q => s σ env H ρ M _ _ E R e1 _ fun v H1 ρ1 st1 R1 r1 => ?_
  split at h
  · cases r1
    exact ⟨true, rfl, s' σ env H1 ρ1 _ _ _ (E.mono st1 R) R1 h _ fun u H2 ρ2 st2 R2 r2 => q u H2 ρ2 (st1.trans st2) R2 r2⟩
  · cases h
    cases r1
    exact ⟨false, rfl, q _ H1 ρ1 st1 R1 (.bl false)⟩
  · cases h
theorem se_or {f f' : FE} (h : SE S sc a f) (h' : SE S sc (.BoolOp .Or (b :: es) pos) f') : SE S sc (.BoolOp .Or (a :: b :: es) pos) (fOrV f f') := by
  obtain ⟨t, p, s⟩ := h
  obtain ⟨t', p', s'⟩ := h'
  refine ⟨tOrV t t', fun X O => pe_or (p X O) (p' X O), fun σ env H ρ M b M' E R h => ?_⟩
  obtain ⟨x, M1, e1, h⟩ := bindO_some h
  refine fun Q q => s σ env H ρ M _ _ E R e1 _ fun v H1 ρ1 st1 R1 r1 => ?_
  split at h
  · cases h
    cases r1
    exact ⟨true, rfl, q _ H1 ρ1 st1 R1 (.bl true)⟩
  · cases r1
    exact ⟨false, rfl, s' σ env H1 ρ1 _ _ _ (E.mono st1 R) R1 h _ fun u H2 ρ2 st2 R2 r2 => q u H2 ρ2 (st1.trans st2) R2 r2⟩
  · cases h
theorem se_not {f : FE} (h : SE S sc a f) : SE S sc (.UnaryOp .Not a pos) (fNotV f) := by
  obtain ⟨t, p, s⟩ := h
  refine ⟨tNotV t, fun X O => pe_not (p X O), fun σ env H ρ M b M' E R h => ?_⟩
  obtain ⟨x, M1, e1, h⟩ := bindO_some h
  refine fun Q q => s σ env H ρ M _ _ E R e1 _ fun v H1 ρ1 st1 R1 r1 => ?_
  split at h
  · cases h
    cases r1
    exact ⟨_, rfl, q _ H1 ρ1 st1 R1 (.bl _)⟩
  · cases h
def fNeg (f : FE) : FE := fun env M => bindO (f env M) fun d M1 => match d with
  | .int i => some (.int (-i), M1)
  | _ => none
theorem se_neg {f : FE} (h : SE S sc a f) : SE S sc (.UnaryOp .USub a pos) (fNeg f) := by
  obtain ⟨t, p, s⟩ := h
  refine ⟨_, fun X O => pe_un un_neg (p X O), fun σ env H ρ M b M' E R h => ?_⟩
  obtain ⟨x, M1, e1, h⟩ := bindO_some h
  refine fun Q q => s σ env H ρ M _ _ E R e1 _ fun v H1 ρ1 st1 R1 r1 => ?_
  split at h
  · cases h
    cases r1
    exact ⟨_, rfl, q _ H1 ρ1 st1 R1 (.int _)⟩
  · cases h
def fIf (t : FT) (f g : FE) : FE := fun env M => bindO (t env M) fun b M1 => match b with
  | true => f env M1
  | false => g env M1
theorem se_if {t : FT} {f f' : FE} (h : ST S sc c t) (h1 : SE S sc a f) (h2 : SE S sc b f') : SE S sc (.IfExp c a b pos) (fIf t f f') := by
  obtain ⟨tt, p, s⟩ := h
  obtain ⟨t1, p1, s1⟩ := h1
  obtain ⟨t2, p2, s2⟩ := h2
  refine ⟨tIf tt t1 t2, fun X O => pe_ifExp (p X O) (p1 X O) (p2 X O), fun σ env H ρ M b M' E R h => ?_⟩
  obtain ⟨x, M1, e1, h⟩ := bindO_some h
  refine fun Q q => s σ env H ρ M _ _ E R e1 _ fun H1 ρ1 st1 R1 => ?_
  cases x with
  | true => exact s1 σ env H1 ρ1 _ _ _ (E.mono st1 R) R1 h _ fun u H2 ρ2 st2 R2 r2 => q u H2 ρ2 (st1.trans st2) R2 r2
  | false => exact s2 σ env H1 ρ1 _ _ _ (E.mono st1 R) R1 h _ fun u H2 ρ2 st2 R2 r2 => q u H2 ρ2 (st1.trans st2) R2 r2
end
end PV

-- PV4
namespace PV
open PySem PySem.Spec PyProof.Rows L2

section
variable {S : Stat} {sc : Scope} {e a b c : Expr} {es : List Expr} {pos p : Pos}

/-! ### items -/
theorem DvAll.atI {K : PySem.W.Frag} {H : Hp} {ρ : List Addr} {vs : List V} {ds : List D} {i : Int} {d : D} (h : DvAll K H ρ vs ds) (e : L2.atI ds i = some d) : ∃ v, L2.atI vs i = some v ∧ Dv K H ρ v d := by
  unfold L2.atI at e ⊢
  rw [h.length]
  cases hj : ixN ds.length i with
  | none => rw [hj] at e; cases e
  | some j =>
    rw [hj] at e
    exact h.get (i := j) e
def gIx : Mem → D → D → Option D := fun M a b => match a, b with
  | .tup xs, .int i => L2.atI xs i
  | .cl xs, .int i => L2.atI xs i
  | .ref n, .int i => match M[n]? with
    | some (.lst xs) => L2.atI xs i
    | none => none
  | .str z, .int i => if z.length ≤ 100000 then match L2.atI z.cps.toList i with
      | some c => some (.str ⟨#[c]⟩)
      | none => none
    else none
  | _, _ => none
theorem RelM.lst {K : PySem.W.Frag} {H : Hp} {ρ : List Addr} {M : Mem} {n : Nat} {x : Addr} {xs : List D} (R : RelM K H ρ M) (h : ρ[n]? = some x) (e : M[n]? = some (.lst xs)) : ∃ vs, H x = some (.lst vs) ∧ DvAll K H ρ vs xs := by
  obtain ⟨y, hy, hr⟩ := R.ob n _ e
  rw [h] at hy
  cases hy
  exact hr
theorem se_ix {fa fb : FE} (ha : SE S sc a fa) (hb : SE S sc b fb) (hs : PlainIx b := by exact fun _ _ => rfl) : SE S sc (.Subscript a b pos) (fOp gIx fa fb) := by
  obtain ⟨ta, pa, sa⟩ := ha
  obtain ⟨tb, pb, sb⟩ := hb
  refine ⟨tOp (fun x y H Q => rIxT S.K x y H Q ∨ (rIxL S.K x y H Q ∨ rIxS x y H Q)) ta tb, fun X O => pe_ix (IxR.or (by rw [← O.K]; exact ix_tup) (IxR.or (by rw [← O.K]; exact ix_list) ix_str)) (pa X O) (pb X O) hs, sem_op (fun H ρ M x y a b d R ra rb e Q q => ?_) sa sb⟩
  unfold gIx at e
  split at e
  · rename_i ds i
    cases rb
    cases ra with
    | tup s1 d1 =>
      obtain ⟨v, h1, h2⟩ := d1.atI e
      exact .inl ⟨_, _, i, v, rfl, rfl, s1, h1, q v H .refl R h2⟩
  · rename_i ds i
    cases rb
    cases ra with
    | cl s1 d1 =>
      obtain ⟨v, h1, h2⟩ := d1.atI e
      exact .inr (.inl ⟨_, _, i, v, rfl, rfl, s1.sq, h1, q v H .refl R h2⟩)
  · rename_i n i
    cases rb
    cases ra with
    | ref hn =>
      split at e
      · rename_i xs hM
        obtain ⟨vs, hv, hd⟩ := R.lst hn hM
        obtain ⟨v, h1, h2⟩ := hd.atI e
        exact .inr (.inl ⟨_, _, i, v, rfl, rfl, .inl (.inl hv), h1, q v H .refl R h2⟩)
      · cases e
  · rename_i z i
    cases rb
    cases ra
    split at e
    · rename_i hz
      split at e
      · rename_i c hc
        cases e
        exact .inr (.inr ⟨z, i, c, rfl, rfl, Nat.le_trans hz (by decide), hc, q _ H .refl R (.str _)⟩)
      · cases e
    · cases e
  · cases e

/-! ### slices -/
abbrev FO := Vars → Mem → Option (Option Int × Mem)
def SO (S : Stat) (sc : Scope) (e : Option Expr) (f : FO) : Prop := ∃ te, (∀ X, XOk S sc X → PO X e te) ∧
  ∀ σ env H ρ M d M', EnvR S.K H ρ σ env → RelM S.K H ρ M → f env M = some (d, M') → ∀ Q : Option Int → Hp → Prop, (∀ H' ρ', Stp H H' ρ ρ' → RelM S.K H' ρ' M' → Q d H') → te σ H Q
def fNo : FO := fun _ M => some (none, M)
def fSo (f : FE) : FO := fun env M => bindO (f env M) fun d M1 => match d with
  | .int i => some (some i, M1)
  | _ => none
theorem so_none : SO S sc none fNo := ⟨_, fun X _ => po_none, fun σ env H ρ M d M' E R h => by cases h; exact fun Q q => q H ρ .refl R⟩
theorem so_some {f : FE} (h : SE S sc e f) : SO S sc (some e) (fSo f) := by
  obtain ⟨te, p, s⟩ := h
  refine ⟨tPart te, fun X O => po_some (p X O), fun σ env H ρ M d M' E R h => ?_⟩
  obtain ⟨x, M1, e1, h⟩ := bindO_some h
  split at h
  · cases h
    refine fun Q q => s σ env H ρ M _ _ E R e1 _ fun v H1 ρ1 st1 R1 r1 => ?_
    cases r1
    exact ⟨_, rfl, q H1 ρ1 st1 R1⟩
  · cases h
def cutD (xs : List D) (lo hi : Option Int) : List D := (xs.drop (HT.sIx xs.length 0 lo)).take (HT.sIx xs.length xs.length hi - HT.sIx xs.length 0 lo)
theorem DvAll.cut {K : PySem.W.Frag} {H : Hp} {ρ : List Addr} {vs : List V} {ds : List D} (h : DvAll K H ρ vs ds) (lo hi : Option Int) : DvAll K H ρ (cutV vs lo hi) (cutD ds lo hi) := by
  unfold cutV cutD
  rw [h.length]
  exact (h.drop _).take _
theorem cutV_all (xs : List V) (lo hi : Option Int) (h : HT.sIx xs.length 0 lo = 0 ∧ HT.sIx xs.length xs.length hi = xs.length) : cutV xs lo hi = xs := by
  unfold cutV
  rw [h.1, h.2]
  simp
theorem cutD_all (xs : List D) (lo hi : Option Int) (h : HT.sIx xs.length 0 lo = 0 ∧ HT.sIx xs.length xs.length hi = xs.length) : cutD xs lo hi = xs := by
  unfold cutD
  rw [h.1, h.2]
  simp
def fSl (f : FE) (lo hi : FO) : FE := fun env M => bindO (f env M) fun d M1 => bindO (lo env M1) fun l M2 => bindO (hi env M2) fun u M3 => match d with
  | .tup xs => some (.tup (cutD xs l u), M3)
  | .cl xs => some (.ref M3.length, M3 ++ [.lst (cutD xs l u)])
  | .ref n => match M3[n]? with
    | some (.lst xs) => some (.ref M3.length, M3 ++ [.lst (cutD xs l u)])
    | none => none
  | _ => none
theorem sem_sl {r : V → Option Int → Option Int → Hp → VK → Prop} {te : TE} {tl th : L2.TO} {f : FE} {lo hi : FO} {σ env H ρ M} {Q : VK}
    (s : ∀ σ env H ρ M d M', EnvR S.K H ρ σ env → RelM S.K H ρ M → f env M = some (d, M') → EvX S.K te σ H ρ d M')
    (sl : ∀ σ env H ρ M d M', EnvR S.K H ρ σ env → RelM S.K H ρ M → lo env M = some (d, M') → ∀ Q : Option Int → Hp → Prop, (∀ H' ρ', Stp H H' ρ ρ' → RelM S.K H' ρ' M' → Q d H') → tl σ H Q)
    (sh : ∀ σ env H ρ M d M', EnvR S.K H ρ σ env → RelM S.K H ρ M → hi env M = some (d, M') → ∀ Q : Option Int → Hp → Prop, (∀ H' ρ', Stp H H' ρ ρ' → RelM S.K H' ρ' M' → Q d H') → th σ H Q)
    {d : D} {l u : Option Int} {M1 M2 M3 : Mem} (E : EnvR S.K H ρ σ env) (R : RelM S.K H ρ M) (e1 : f env M = some (d, M1)) (e2 : lo env M1 = some (l, M2)) (e3 : hi env M2 = some (u, M3))
    (k : ∀ v H3 ρ3, Stp H H3 ρ ρ3 → RelM S.K H3 ρ3 M3 → Dv S.K H3 ρ3 v d → r v l u H3 Q) : tSl r te tl th σ H Q := by
  refine s σ env H ρ M _ _ E R e1 _ fun v H1 ρ1 st1 R1 r1 => ?_
  refine sl σ env H1 ρ1 _ _ _ (E.mono st1 R) R1 e2 _ fun H2 ρ2 st2 R2 => ?_
  refine sh σ env H2 ρ2 _ _ _ ((E.mono st1 R).mono st2 R1) R2 e3 _ fun H3 ρ3 st3 R3 => ?_
  exact k v H3 ρ3 ((st1.trans st2).trans st3) R3 ((r1.mono st2 R1).mono st3 R2)
/-- a new list, laid and noted -/
theorem lay_note {K : PySem.W.Frag} {H : Hp} {ρ : List Addr} {M : Mem} {p : Addr} {vs : List V} {ds : List D} (R : RelM K H ρ M) (hp : H p = none) (hd : DvAll K H ρ vs ds) :
    Stp H (upd H p (.lst vs)) ρ (ρ ++ [p]) ∧ RelM K (upd H p (.lst vs)) (ρ ++ [p]) (M ++ [.lst ds]) ∧ Dv K (upd H p (.lst vs)) (ρ ++ [p]) (.ref p) (.ref M.length) :=
  ⟨(Stp.laid hp).note hp, (R.laid hp).note upd_same (fun hm => by
    obtain ⟨o, ho, _⟩ := R.mem hm
    rw [hp] at ho
    cases ho) (hd.mono (.laid hp) R), .ref (by rw [← R.len]; simp)⟩
theorem se_sl {f : FE} {lo hi : Option Expr} {fl fh : FO} {p2 : Pos} (h : SE S sc e f) (hl : SO S sc lo fl) (hh : SO S sc hi fh) : SE S sc (.Subscript e (.Slice lo hi none p2) pos) (fSl f fl fh) := by
  obtain ⟨te, p, s⟩ := h
  obtain ⟨tl, pl, sl⟩ := hl
  obtain ⟨th, ph, sh⟩ := hh
  refine ⟨tSl (fun x l u H Q => rSlA S.K x l u H Q ∨ rSlL S.K x l u H Q) te tl th, fun X O => pe_slice (SlR.or (by rw [← O.K]; exact sl_tupA) (by rw [← O.K]; exact sl_list)) (p X O) (pl X O) (ph X O), fun σ env H ρ M d M' E R h => ?_⟩
  obtain ⟨x, M1, e1, h⟩ := bindO_some h
  obtain ⟨l, M2, e2, h⟩ := bindO_some h
  obtain ⟨u, M3, e3, h⟩ := bindO_some h
  refine fun Q q => sem_sl s sl sh E R e1 e2 e3 fun v H3 ρ3 st3 R3 r3 => ?_
  split at h
  · rename_i xs
    cases h
    cases r3 with
    | tup s1 d1 =>
      rename_i a vs
      refine .inl ⟨a, vs, rfl, s1, fun hw => ?_, fun hw p hp => ?_⟩
      · have z := d1.cut l u
        rw [cutV_all _ _ _ hw] at z
        exact q _ H3 ρ3 st3 R3 (.tup s1 z)
      · exact q _ _ ρ3 (st3.trans (.laid hp)) (R3.laid hp) (.tup (.inl (.inl upd_same)) ((d1.cut l u).mono (.laid hp) R3))
  · rename_i xs
    cases h
    cases r3 with
    | cl s1 d1 =>
      refine .inr ⟨_, _, rfl, s1.sq, fun p hp => ?_⟩
      obtain ⟨z1, z2, z3⟩ := lay_note R3 hp (d1.cut l u)
      exact q _ _ _ (st3.trans z1) z2 z3
  · rename_i n
    cases r3 with
    | ref hn =>
      rename_i a
      split at h
      · rename_i xs hM
        cases h
        obtain ⟨vs, hv, hd⟩ := R3.lst hn hM
        refine .inr ⟨a, vs, rfl, .inl (.inl hv), fun p hp => ?_⟩
        obtain ⟨z1, z2, z3⟩ := lay_note R3 hp (hd.cut l u)
        exact q _ _ _ (st3.trans z1) z2 z3
      · cases h
  · cases h
/-- xs[::-1], of a list -/
def fRevL (f : FE) : FL := fun env M => bindO (f env M) fun d M1 => match d with
  | .ref n => match M1[n]? with
    | some (.lst xs) => some (xs.reverse, M1)
    | none => none
  | _ => none
theorem DvAll.reverse {K : PySem.W.Frag} {H : Hp} {ρ : List Addr} : ∀ {vs : List V} {ds : List D}, DvAll K H ρ vs ds → DvAll K H ρ vs.reverse ds.reverse
  | _, _, .nil => .nil
  | _, _, .cons h t => by
    rw [List.reverse_cons, List.reverse_cons]
    exact (DvAll.reverse t).append (.one h)
/-- where a step went from, an address that is new was new -/
theorem Stp.none {H H' : Hp} {ρ ρ' : List Addr} {K : PySem.W.Frag} {M : Mem} (s : Stp H H' ρ ρ') (R : RelM K H' ρ' M) {x : Addr} (h : H' x = none) : H x = none := by
  cases e : H x with
  | none => rfl
  | some o =>
    by_cases hm : x ∈ ρ
    · obtain ⟨l, rfl⟩ := s.pre
      obtain ⟨u, hu, _⟩ := R.mem (List.mem_append_left _ hm)
      rw [h] at hu
      cases hu
    · rw [s.fr x o e hm] at h
      cases h
theorem RelM.fresh {K : PySem.W.Frag} {H : Hp} {ρ : List Addr} {M : Mem} {p : Addr} (R : RelM K H ρ M) (hp : H p = none) : p ∉ ρ := fun hm => by
  obtain ⟨o, ho, _⟩ := R.mem hm
  rw [hp] at ho
  cases ho
/-- a new list, laid, not noted -/
theorem lay_free {K : PySem.W.Frag} {H H1 : Hp} {ρ ρ1 : List Addr} {M : Mem} {p : Addr} {vs : List V} {ds : List D} (st : Stp H H1 ρ ρ1) (R : RelM K H1 ρ1 M) (hp : H1 p = none) (hd : DvAll K H1 ρ1 vs ds) :
    Stp H (upd H1 p (.lst vs)) ρ ρ1 ∧ RelM K (upd H1 p (.lst vs)) ρ1 M ∧ upd H1 p (.lst vs) p = some (.lst vs) ∧ p ∉ ρ1 ∧ H p = none ∧ DvAll K (upd H1 p (.lst vs)) ρ1 vs ds :=
  ⟨st.trans (.laid hp), R.laid hp, upd_same, R.fresh hp, st.none R hp, hd.mono (.laid hp) R⟩
theorem sf_revL {f : FE} {k} {p1 p2 p3 : Pos} (h : SE S sc e f) : SF S sc (.Subscript e (.Slice none none (some (.UnaryOp .USub (.Constant (.int 1) k p1) p2)) p3) pos) (fRevL f) := by
  obtain ⟨te, p, s⟩ := h
  refine ⟨tRevL S.K te, fun X O => by rw [← O.K]; exact pe_revL (p X O), fun σ env H ρ M d M' E R h => ?_⟩
  obtain ⟨x, M1, e1, h⟩ := bindO_some h
  refine fun Q q => s σ env H ρ M _ _ E R e1 _ fun v H1 ρ1 st1 R1 r1 => ?_
  split at h
  · rename_i n
    cases r1 with
    | ref hn =>
      split at h
      · rename_i xs hM
        cases h
        obtain ⟨vs, hv, hd⟩ := R1.lst hn hM
        refine ⟨_, vs, rfl, .inl (.inl hv), fun p hp => ?_⟩
        obtain ⟨z1, z2, z3, z4, z5, z6⟩ := lay_free st1 R1 hp hd.reverse
        exact q p _ _ _ z1 z2 z3 z4 z5 z6
      · cases h
  · cases h

/-! ### calls of built-ins -/
structure BGl (S : Stat) (sc : Scope) (x : Str) : Prop where
  gl : glB sc x = true
  no : S.mg x = none
theorem BGl.at {x : Str} {X : Cx} (h : BGl S sc x) (O : XOk S sc X) : Gl X x ∧ X.mg x = none := ⟨O.gl h.gl, by rw [O.mg]; exact h.no⟩
theorem star1 (e : Expr) (hs : ∀ env, starEach [e] env = [(false, eval e env)]) (env : Env) : starEach (e :: []) env = (false, eval e env) :: starEach [] env := hs env
abbrev Plain1 (e : Expr) : Prop := ∀ env, starEach [e] env = [(false, eval e env)]
/-- a call by values: args in, a value out, the memory as it was -/
theorem sem_call {r : List V → Hp → VK → Prop} {ta : TA} {fa : FL} {g : Mem → List D → Option D}
    (sa : ∀ σ env H ρ M d M', EnvR S.K H ρ σ env → RelM S.K H ρ M → fa env M = some (d, M') → EvA S.K ta σ H ρ d M')
    (s : ∀ H ρ M vs ds d, RelM S.K H ρ M → DvAll S.K H ρ vs ds → g M ds = some d → ∀ Q : VK, (∀ v H', Stp H H' ρ ρ → RelM S.K H' ρ M → Dv S.K H' ρ v d → Q v H') → r vs H Q)
    (σ env H ρ M d M') (E : EnvR S.K H ρ σ env) (R : RelM S.K H ρ M) (h : (bindO (fa env M) fun ds M1 => pairO (g M1 ds) M1) = some (d, M')) : EvX S.K (tCB r ta) σ H ρ d M' := by
  obtain ⟨ds, M1, e1, h⟩ := bindO_some h
  obtain ⟨e2, rfl⟩ := pairO_some h
  refine fun Q q => sa σ env H ρ M _ _ E R e1 _ fun vs H1 ρ1 st1 R1 r1 => ?_
  refine s H1 ρ1 _ vs ds d R1 r1 e2 Q fun v H2 st2 R2 r2 => ?_
  exact q v H2 ρ1 (st1.trans st2) R2 r2
def fCall (g : Mem → List D → Option D) (fa : FL) : FE := fun env M => bindO (fa env M) fun ds M1 => pairO (g M1 ds) M1
theorem se_blt {id : String} {x : Str} {r : List V → Hp → VK → Prop} {fa : FL} {g : Mem → List D → Option D} (hx : BGl S sc x) (hv : bootBuiltins x = some (.builtin id)) (pr : ∀ X, XOk S sc X → CallR X (.builtin id) r) (ha : SA S sc (e :: es) fa)
    (s : ∀ H ρ M vs ds d, RelM S.K H ρ M → DvAll S.K H ρ vs ds → g M ds = some d → ∀ Q : VK, (∀ v H', Stp H H' ρ ρ → RelM S.K H' ρ M → Dv S.K H' ρ v d → Q v H') → r vs H Q)
    (he : ∀ env, starEach (e :: es) env = (false, eval e env) :: starEach es env) (hpl : ∀ env, (backTo pos (starEach es env)).any (·.1) = false) (hn : x ≠ "__name__" := by decide) (hdb : (x == ("__debug__" : Str)) = false := by decide) :
    SE S sc (.Call (.Name x p) (e :: es) [] pos) (fCall g fa) := by
  obtain ⟨ta, pa, sa⟩ := ha
  exact ⟨tCB r ta, fun X O => pe_callB (pr X O) (hx.at O).1 (hx.at O).2 hv (pa X O) hn hdb (he _) (hpl _), sem_call sa s⟩
theorem se_bty {T : String} {x : Str} {r : List V → Hp → VK → Prop} {fa : FL} {g : Mem → List D → Option D} (hx : BGl S sc x) (hv : bootBuiltins x = some (.type T)) (pr : ∀ X, XOk S sc X → CallR X (.type T) r) (ha : SA S sc (e :: es) fa)
    (s : ∀ H ρ M vs ds d, RelM S.K H ρ M → DvAll S.K H ρ vs ds → g M ds = some d → ∀ Q : VK, (∀ v H', Stp H H' ρ ρ → RelM S.K H' ρ M → Dv S.K H' ρ v d → Q v H') → r vs H Q)
    (he : ∀ env, starEach (e :: es) env = (false, eval e env) :: starEach es env) (hpl : ∀ env, (backTo pos (starEach es env)).any (·.1) = false) (hn : x ≠ "__name__" := by decide) (hdb : (x == ("__debug__" : Str)) = false := by decide) :
    SE S sc (.Call (.Name x p) (e :: es) [] pos) (fCall g fa) := by
  obtain ⟨ta, pa, sa⟩ := ha
  exact ⟨tCB r ta, fun X O => pe_callTy (pr X O) (hx.at O).1 (hx.at O).2 hv (pa X O) hn hdb (he _) (hpl _), sem_call sa s⟩

def gLen : Mem → List D → Option D := fun M ds => match ds with
  | [.tup xs] => some (.int xs.length)
  | [.cl xs] => some (.int xs.length)
  | [.ref n] => match M[n]? with
    | some (.lst xs) => some (.int xs.length)
    | none => none
  | [.str z] => if z.length ≤ 100000 then some (.int z.length) else none
  | _ => none
theorem se_len {fe : FE} (hx : BGl S sc "len") (h : SE S sc e fe) (he : ∀ env, starEach (e :: []) env = (false, eval e env) :: starEach [] env := by intro _; rfl) :
    SE S sc (.Call (.Name "len" p) [e] [] pos) (fCall gLen (fCons fe fNil)) :=
  se_blt (r := fun xs H Q => (∃ p ys, xs = [.ref p] ∧ (SqL S.K H p ys ∨ SqT S.K H p ys) ∧ Q (.int ys.length) H) ∨ (∃ z, xs = [.str z] ∧ z.length ≤ sizeLine ∧ Q (.int z.length) H)) hx PySem.boot_len (fun X O => CallR.or (by rw [← O.K]; exact call_len_seq) call_len_str) (sa_cons h sa_nil he) (fun H ρ M vs ds d R r e Q q => by
    unfold gLen at e
    split at e
    · rename_i xs
      cases e
      cases r with
      | cons r rn =>
        cases rn
        cases r with
        | tup s1 d1 =>
          refine .inl ⟨_, _, rfl, .inr s1, ?_⟩
          rw [d1.length]
          exact q _ H .refl R (.int _)
    · rename_i xs
      cases e
      cases r with
      | cons r rn =>
        cases rn
        cases r with
        | cl s1 d1 =>
          refine .inl ⟨_, _, rfl, .inl s1.sq, ?_⟩
          rw [d1.length]
          exact q _ H .refl R (.int _)
    · rename_i n
      cases r with
      | cons r rn =>
        cases rn
        cases r with
        | ref hn =>
          split at e
          · rename_i xs hM
            cases e
            obtain ⟨vs, hv, hd⟩ := R.lst hn hM
            refine .inl ⟨_, vs, rfl, .inl (.inl (.inl hv)), ?_⟩
            rw [hd.length]
            exact q _ H .refl R (.int _)
          · cases e
    · rename_i z
      split at e
      · rename_i hz
        cases e
        cases r with
        | cons r rn =>
          cases rn
          cases r
          exact .inr ⟨z, rfl, Nat.le_trans hz (by decide), q _ H .refl R (.int _)⟩
      · cases e
    · cases e) he (fun _ => rfl)
end
end PV

-- PV5
namespace PV
open PySem PySem.Spec PyProof.Rows L2

section
variable {S : Stat} {sc : Scope} {e a b c : Expr} {es : List Expr} {pos p : Pos}

/-! ### isinstance -/
def kindD : D → String
  | .non => "NoneType"
  | .bl _ => "bool"
  | .int _ => "int"
  | .str _ => "str"
  | .tup _ => "tuple"
  | .ref _ => "list"
  | .cl _ => "list"
  | .emp => "dict"
def isKn (k T : String) : Bool := if k == "bool" then T == "bool" || T == "int" else T == k
def isK (d : D) (T : String) : Bool := isKn (kindD d) T
def tyOk (T : String) : Bool := T == "int" || T == "bool" || T == "str" || T == "tuple" || T == "list" || T == "dict"
theorem kit_all : ["NoneType", "bool", "int", "str", "tuple", "list", "dict"].all (fun k => ["int", "bool", "str", "tuple", "list", "dict"].all fun T => kitB k T == some (isKn k T)) = true := by decide +kernel
theorem kind_mem (d : D) : kindD d ∈ ["NoneType", "bool", "int", "str", "tuple", "list", "dict"] := by cases d <;> simp [kindD]
theorem kit_isK (d : D) (T : String) (h : tyOk T = true) : kitB (kindD d) T = some (isK d T) := by
  have hT : T ∈ ["int", "bool", "str", "tuple", "list", "dict"] := by
    simp only [tyOk, Bool.or_eq_true, beq_iff_eq] at h
    rcases h with ((((h | h) | h) | h) | h) | h <;> subst h <;> decide
  have z := List.all_eq_true.mp (List.all_eq_true.mp kit_all _ (kind_mem d)) _ hT
  exact eq_of_beq z
theorem dv_ty {K : PySem.W.Frag} {H : Hp} {ρ : List Addr} {M : Mem} {v : V} {d : D} (R : RelM K H ρ M) (r : Dv K H ρ v d) : TyX K H v (.type (kindD d)) := by
  cases r with
  | non => exact .base .non
  | bl b => exact .base (.bl b)
  | int i => exact .base (.int i)
  | str x => exact .base (.str x)
  | tup h _ =>
    rcases h with (h | ⟨o, h⟩) | ⟨o, its, n, h, hc, _⟩
    · exact .base (.tup h)
    · exact TyX.fTuple (o := o) h
    · exact .kTuple h hc
  | ref h =>
    obtain ⟨o, ho, hn⟩ := R.mem (List.mem_of_getElem? h)
    obtain ⟨k, hk, e⟩ := List.mem_iff_getElem.mp (List.mem_of_getElem? h)
    have hkM : k < M.length := by rw [← R.len]; exact hk
    obtain ⟨b, hb, hr⟩ := R.ob k M[k] (List.getElem?_eq_getElem hkM)
    have z : b = _ := Option.some.inj (hb.symm.trans ((List.getElem?_eq_getElem hk).trans (congrArg some e)))
    subst z
    cases hm : M[k] with
    | lst xs =>
      rw [hm] at hr
      obtain ⟨vs, hv, _⟩ := hr
      exact .base (.lst hv)
  | cl h _ =>
    rcases h with ⟨o, h⟩ | ⟨o, its, n, h, hc, _⟩
    · exact .base (.frz h)
    · exact .kList h hc
  | emp h => exact .base (.dK h)
def gIsi (T : String) : Mem → List D → Option D := fun _ ds => match ds with
  | [d, _] => some (.bl (isK d T))
  | _ => none
def fIsi (T : String) (f : FE) : FE := fun env M => bindO (f env M) fun d M1 => some (.bl (isK d T), M1)
theorem se_isi {fe : FE} {T : String} {Tn : Str} {p2 : Pos} (hx : BGl S sc "isinstance") (hT : BGl S sc Tn) (hb : bootBuiltins Tn = some (.type T)) (ht : tyOk T = true) (h : SE S sc e fe) (hn : Tn ≠ "__name__" := by decide) (hd : (Tn == ("__debug__" : Str)) = false := by decide)
    (he : ∀ env b, starEach (e :: [b]) env = (false, eval e env) :: starEach [b] env := by intro _ _; rfl) :
    SE S sc (.Call (.Name "isinstance" p) [e, .Name Tn p2] [] pos) (fIsi T fe) := by
  obtain ⟨te, pe, se⟩ := h
  refine ⟨tCB (rIsi S.K) (tCons te (tCons (tC (.ty T)) tNil)), fun X O => pe_callB (by rw [← O.K]; exact call_isi) (hx.at O).1 (hx.at O).2 boot_isinstance
    (pa_cons (pe X O) (pa_cons (pe_bltn (hT.at O).1 (hT.at O).2 hb (show RelV (.ty T) (Value.type T) from rfl) hn hd) pa_nil) (he _ _)) (by decide) (by decide) (he _ _), fun σ env H ρ M d M' E R h => ?_⟩
  obtain ⟨x, M1, e1, h⟩ := bindO_some h
  cases h
  refine fun Q q => se σ env H ρ M _ _ E R e1 _ fun v H1 ρ1 st1 R1 r1 => ?_
  exact ⟨v, .ty T, _, _, isK x T, rfl, .ty T, dv_ty R1 r1, kit_ty (kit_isK x T ht), q _ H1 ρ1 st1 R1 (.bl _)⟩

/-! ### all, any of a new list of bools -/
def boolsOf : List D → Option (List Bool)
  | [] => some []
  | .bl b :: r => match boolsOf r with
    | some bs => some (b :: bs)
    | none => none
  | _ :: _ => none
theorem boolsOf_v {K : PySem.W.Frag} {H : Hp} {ρ : List Addr} : ∀ {ds : List D} {vs : List V} {bs : List Bool}, DvAll K H ρ vs ds → boolsOf ds = some bs → vs = bs.map V.bl
  | [], _, _, r, h => by
    cases r
    cases h
    rfl
  | .bl b :: ds, _, bs, r, h => by
    cases r with
    | cons r t =>
      cases r
      cases e : boolsOf ds with
      | none =>
        simp only [boolsOf, e] at h
        cases h
      | some cs =>
        simp only [boolsOf, e] at h
        cases h
        rw [boolsOf_v t e]
        rfl
  | .non :: _, _, _, _, h => by cases h
  | .int _ :: _, _, _, _, h => by cases h
  | .str _ :: _, _, _, _, h => by cases h
  | .tup _ :: _, _, _, _, h => by cases h
  | .ref _ :: _, _, _, _, h => by cases h
  | .cl _ :: _, _, _, _, h => by cases h
  | .emp :: _, _, _, _, h => by cases h
def fAll (f : FL) : FE := fun env M => bindO (f env M) fun ds M1 => match boolsOf ds with
  | some bs => some (.bl (bs.all id), M1)
  | none => none
def fAny (f : FL) : FE := fun env M => bindO (f env M) fun ds M1 => match boolsOf ds with
  | some bs => some (.bl (bs.any id), M1)
  | none => none
theorem se_all {f : FL} (hx : BGl S sc "all") (h : SF S sc e f) (he : ∀ env, starEach (e :: []) env = (false, eval e env) :: starEach [] env := by intro _; rfl) : SE S sc (.Call (.Name "all" p) [e] [] pos) (fAll f) := by
  obtain ⟨te, pe, se⟩ := h
  refine ⟨tCB (rAll S.K) (tCons te tNil), fun X O => pe_callB (by rw [← O.K]; exact cr_all O.calm) (hx.at O).1 (hx.at O).2 boot_all (pa_cons (pe X O) pa_nil (he _)) (by decide) (by decide) (he _) rfl, fun σ env H ρ M d M' E R h => ?_⟩
  obtain ⟨x, M1, e1, h⟩ := bindO_some h
  split at h
  · rename_i bs eb
    cases h
    refine fun Q q => se σ env H ρ M _ _ E R e1 _ fun a vs H1 ρ1 st1 R1 hp _ _ hd => ?_
    have z := boolsOf_v hd eb
    subst z
    exact ⟨a, bs, rfl, .inl (.inl hp), q _ H1 ρ1 st1 R1 (.bl _)⟩
  · cases h
theorem se_any {f : FL} (hx : BGl S sc "any") (hb : bootBuiltins "any" = some (.builtin "any")) (h : SF S sc e f) (he : ∀ env, starEach (e :: []) env = (false, eval e env) :: starEach [] env := by intro _; rfl) : SE S sc (.Call (.Name "any" p) [e] [] pos) (fAny f) := by
  obtain ⟨te, pe, se⟩ := h
  refine ⟨tCB (rAny S.K) (tCons te tNil), fun X O => pe_callB (by rw [← O.K]; exact cr_any O.calm) (hx.at O).1 (hx.at O).2 hb (pa_cons (pe X O) pa_nil (he _)) (by decide) (by decide) (he _) rfl, fun σ env H ρ M d M' E R h => ?_⟩
  obtain ⟨x, M1, e1, h⟩ := bindO_some h
  split at h
  · rename_i bs eb
    cases h
    refine fun Q q => se σ env H ρ M _ _ E R e1 _ fun a vs H1 ρ1 st1 R1 hp _ _ hd => ?_
    have z := boolsOf_v hd eb
    subst z
    exact ⟨a, bs, rfl, .inl (.inl hp), q _ H1 ρ1 st1 R1 (.bl _)⟩
  · cases h

/-! ### max, min of two ints; int of an int, of a bool -/
def gMax2 : Mem → List D → Option D := fun _ ds => match ds with
  | [.int i, .int j] => some (.int (if j > i then j else i))
  | _ => none
def gMin2 : Mem → List D → Option D := fun _ ds => match ds with
  | [.int i, .int j] => some (.int (if j < i then j else i))
  | _ => none
theorem se_max2 {fa fb : FE} (hx : BGl S sc "max") (ha : SE S sc a fa) (hb : SE S sc b fb) (he : ∀ env, starEach (a :: [b]) env = (false, eval a env) :: starEach [b] env := by intro _; rfl) (hs : ∀ env, starEach (b :: []) env = (false, eval b env) :: starEach [] env := by intro _; rfl)
    (hpl : ∀ env, (backTo pos (starEach [b] env)).any (·.1) = false := by intro _; rfl) : SE S sc (.Call (.Name "max" p) [a, b] [] pos) (fCall gMax2 (fCons fa (fCons fb fNil))) :=
  se_blt (r := fun xs H Q => ∃ i j, xs = [.int i, .int j] ∧ Q (.int (if j > i then j else i)) H) hx boot_max (fun X O => call_max2 O.calm) (sa_cons ha (sa_cons hb sa_nil hs) he) (fun H ρ M vs ds d R r e Q q => by
    unfold gMax2 at e
    split at e
    · rename_i i j
      cases e
      cases r with
      | cons r1 rn =>
        cases rn with
        | cons r2 rn =>
          cases rn
          cases r1
          cases r2
          exact ⟨i, j, rfl, q _ H .refl R (.int _)⟩
    · cases e) he hpl
theorem se_min2 {fa fb : FE} (hx : BGl S sc "min") (hbt : bootBuiltins "min" = some (.builtin "min")) (ha : SE S sc a fa) (hb : SE S sc b fb) (he : ∀ env, starEach (a :: [b]) env = (false, eval a env) :: starEach [b] env := by intro _; rfl) (hs : ∀ env, starEach (b :: []) env = (false, eval b env) :: starEach [] env := by intro _; rfl)
    (hpl : ∀ env, (backTo pos (starEach [b] env)).any (·.1) = false := by intro _; rfl) : SE S sc (.Call (.Name "min" p) [a, b] [] pos) (fCall gMin2 (fCons fa (fCons fb fNil))) :=
  se_blt (r := fun xs H Q => ∃ i j, xs = [.int i, .int j] ∧ Q (.int (if j < i then j else i)) H) hx hbt (fun X O => call_min2 O.calm) (sa_cons ha (sa_cons hb sa_nil hs) he) (fun H ρ M vs ds d R r e Q q => by
    unfold gMin2 at e
    split at e
    · rename_i i j
      cases e
      cases r with
      | cons r1 rn =>
        cases rn with
        | cons r2 rn =>
          cases rn
          cases r1
          cases r2
          exact ⟨i, j, rfl, q _ H .refl R (.int _)⟩
    · cases e) he hpl
def gInt : Mem → List D → Option D := fun _ ds => match ds with
  | [.int i] => some (.int i)
  | [.bl k] => some (.int (if k then 1 else 0))
  | _ => none
theorem se_int1 {fe : FE} (hx : BGl S sc "int") (h : SE S sc e fe) (he : ∀ env, starEach (e :: []) env = (false, eval e env) :: starEach [] env := by intro _; rfl) : SE S sc (.Call (.Name "int" p) [e] [] pos) (fCall gInt (fCons fe fNil)) :=
  se_bty (r := fun xs H Q => (∃ i, xs = [.int i] ∧ Q (.int i) H) ∨ ∃ k, xs = [.bl k] ∧ Q (.int (if k then 1 else 0)) H) hx PyProof.Rows.boot_int (fun X O => call_int1) (sa_cons h sa_nil he) (fun H ρ M vs ds d R r e Q q => by
    unfold gInt at e
    split at e
    · cases e
      cases r with
      | cons r1 rn =>
        cases rn
        cases r1
        exact .inl ⟨_, rfl, q _ H .refl R (.int _)⟩
    · cases e
      cases r with
      | cons r1 rn =>
        cases rn
        cases r1
        exact .inr ⟨_, rfl, q _ H .refl R (.int _)⟩
    · cases e) he (fun _ => rfl)

/-! ### tuple(..), list(..) -/
/-- tuple of a new list -/
theorem se_tupF {f : FL} (hx : BGl S sc "tuple") (h : SF S sc e f) (he : ∀ env, starEach (e :: []) env = (false, eval e env) :: starEach [] env := by intro _; rfl) : SE S sc (.Call (.Name "tuple" p) [e] [] pos) (fTup f) := by
  obtain ⟨te, pe, se⟩ := h
  refine ⟨tCB (fun xs H Q => ∃ p ys, xs = [.ref p] ∧ ((SqL S.K H p ys ∧ ∀ l, H l = none → Q (.ref l) (upd H l (.tup ys))) ∨ (SqT S.K H p ys ∧ Q (.ref p) H))) (tCons te tNil),
    fun X O => pe_callTy (by rw [← O.K]; exact call_tuple_of) (hx.at O).1 (hx.at O).2 PyProof.Rows.boot_tuple (pa_cons (pe X O) pa_nil (he _)) (by decide) (by decide) (he _) rfl, fun σ env H ρ M d M' E R h => ?_⟩
  obtain ⟨x, M1, e1, h⟩ := bindO_some h
  split at h
  · cases h
    refine fun Q q => se σ env H ρ M _ _ E R e1 _ fun a vs H1 ρ1 st1 R1 hp _ _ hd => ?_
    exact ⟨a, vs, rfl, .inl ⟨.inl (.inl hp), fun l hl => q _ _ ρ1 (st1.trans (.laid hl)) (R1.laid hl) (.tup (.inl (.inl upd_same)) (hd.mono (.laid hl) R1))⟩⟩
  · cases h
/-- tuple of a list that is noted, or of a tuple -/
def gTupOf : Mem → D → Option D := fun M d => match d with
  | .tup xs => some (.tup xs)
  | .ref n => match M[n]? with
    | some (.lst xs) => some (.tup xs)
    | none => none
  | _ => none
def fUn (g : Mem → D → Option D) (f : FE) : FE := fun env M => bindO (f env M) fun d M1 => pairO (g M1 d) M1
theorem se_tupE {fe : FE} (hx : BGl S sc "tuple") (h : SE S sc e fe) (he : ∀ env, starEach (e :: []) env = (false, eval e env) :: starEach [] env := by intro _; rfl) : SE S sc (.Call (.Name "tuple" p) [e] [] pos) (fUn gTupOf fe) := by
  obtain ⟨te, pe, se⟩ := h
  refine ⟨tCB (fun xs H Q => ∃ p ys, xs = [.ref p] ∧ ((SqL S.K H p ys ∧ ∀ l, H l = none → Q (.ref l) (upd H l (.tup ys))) ∨ (SqT S.K H p ys ∧ Q (.ref p) H))) (tCons te tNil),
    fun X O => pe_callTy (by rw [← O.K]; exact call_tuple_of) (hx.at O).1 (hx.at O).2 PyProof.Rows.boot_tuple (pa_cons (pe X O) pa_nil (he _)) (by decide) (by decide) (he _) rfl, fun σ env H ρ M d M' E R h => ?_⟩
  obtain ⟨x, M1, e1, h⟩ := bindO_some h
  obtain ⟨e2, rfl⟩ := pairO_some h
  refine fun Q q => se σ env H ρ M _ _ E R e1 _ fun v H1 ρ1 st1 R1 r1 => ?_
  unfold gTupOf at e2
  split at e2
  · cases e2
    cases r1 with
    | tup s1 d1 => exact ⟨_, _, rfl, .inr ⟨s1, q _ H1 ρ1 st1 R1 (.tup s1 d1)⟩⟩
  · cases r1 with
    | ref hn =>
      split at e2
      · rename_i xs hM
        cases e2
        obtain ⟨vs, hv, hd⟩ := R1.lst hn hM
        exact ⟨_, vs, rfl, .inl ⟨.inl (.inl hv), fun l hl => q _ _ ρ1 (st1.trans (.laid hl)) (R1.laid hl) (.tup (.inl (.inl upd_same)) (hd.mono (.laid hl) R1))⟩⟩
      · cases e2
  · cases e2
def gItems : Mem → D → Option (List D) := fun M d => match d with
  | .tup xs => some xs
  | .cl xs => some xs
  | .ref n => match M[n]? with
    | some (.lst xs) => some xs
    | none => none
  | _ => none
def fListOf (f : FE) : FL := fun env M => bindO (f env M) fun d M1 => match gItems M1 d with
  | some xs => some (xs, M1)
  | none => none
/-- a list or a tuple that is read -/
theorem dv_items {K : PySem.W.Frag} {H : Hp} {ρ : List Addr} {M : Mem} {v : V} {d : D} {xs : List D} (R : RelM K H ρ M) (r : Dv K H ρ v d) (h : gItems M d = some xs) :
    ∃ x vs, v = .ref x ∧ (SqL K H x vs ∨ SqT K H x vs) ∧ DvAll K H ρ vs xs := by
  unfold gItems at h
  split at h
  · cases h
    cases r with
    | tup s1 d1 => exact ⟨_, _, rfl, .inr s1, d1⟩
  · cases h
    cases r with
    | cl s1 d1 => exact ⟨_, _, rfl, .inl s1.sq, d1⟩
  · cases r with
    | ref hn =>
      split at h
      · rename_i xs hM
        cases h
        obtain ⟨vs, hv, hd⟩ := R.lst hn hM
        exact ⟨_, vs, rfl, .inl (.inl (.inl hv)), hd⟩
      · cases h
  · cases h
theorem sf_listOf {fe : FE} (hx : BGl S sc "list") (h : SE S sc e fe) (he : ∀ env, starEach (e :: []) env = (false, eval e env) :: starEach [] env := by intro _; rfl) : SF S sc (.Call (.Name "list" p) [e] [] pos) (fListOf fe) := by
  obtain ⟨te, pe, se⟩ := h
  refine ⟨tCB (fun xs H Q => ∃ p ys, xs = [.ref p] ∧ (SqL S.K H p ys ∨ SqT S.K H p ys) ∧ ∀ l, H l = none → Q (.ref l) (upd H l (.lst ys))) (tCons te tNil),
    fun X O => pe_callTy (by rw [← O.K]; exact call_list_of) (hx.at O).1 (hx.at O).2 boot_list (pa_cons (pe X O) pa_nil (he _)) (by decide) (by decide) (he _) rfl, fun σ env H ρ M d M' E R h => ?_⟩
  obtain ⟨x, M1, e1, h⟩ := bindO_some h
  split at h
  · rename_i xs e2
    cases h
    refine fun Q q => se σ env H ρ M _ _ E R e1 _ fun v H1 ρ1 st1 R1 r1 => ?_
    obtain ⟨y, vs, rfl, hs, hd⟩ := dv_items R1 r1 e2
    refine ⟨y, vs, rfl, hs, fun l hl => ?_⟩
    obtain ⟨z1, z2, z3, z4, z5, z6⟩ := lay_free st1 R1 hl hd
    exact q l _ _ _ z1 z2 z3 z4 z5 z6
  · cases h
/-- list(range(n)) -/
def fRange1 (f : FE) : FL := fun env M => bindO (f env M) fun d M1 => match d with
  | .int n => if n ≤ 100000 ∧ 0 ≤ n then some ((List.range n.toNat).map fun i => D.int (i : Nat), M1) else none
  | _ => none
theorem dv_range {K : PySem.W.Frag} {H : Hp} {ρ : List Addr} (lo : Int) : ∀ l : List Nat, DvAll K H ρ (l.map fun i => V.int (lo + (i : Nat))) (l.map fun i => D.int (lo + (i : Nat)))
  | [] => .nil
  | i :: l => .cons (.int _) (dv_range lo l)
theorem sf_listRange {fe : FE} {p1 p2 : Pos} (hx : BGl S sc "list") (hr : BGl S sc "range") (h : SE S sc e fe) (he : ∀ env, starEach (e :: []) env = (false, eval e env) :: starEach [] env := by intro _; rfl) :
    SF S sc (.Call (.Name "list" p) [.Call (.Name "range" p1) [e] [] p2] [] pos) (fRange1 fe) := by
  obtain ⟨te, pe, se⟩ := h
  refine ⟨tLstRg (tRg1 te), fun X O => pe_listRg O.calm (hx.at O).1 (hx.at O).2 (prg_1 (hr.at O).1 (hr.at O).2 (pe X O) (he _)) rfl, fun σ env H ρ M d M' E R h => ?_⟩
  obtain ⟨x, M1, e1, h⟩ := bindO_some h
  split at h
  · rename_i n
    split at h
    · rename_i hn
      cases h
      refine fun Q q => se σ env H ρ M _ _ E R e1 _ fun v H1 ρ1 st1 R1 r1 => ?_
      cases r1
      refine ⟨n, rfl, RgOk.of_le (by omega) (by omega) (by omega) (by omega), fun l hl => ?_⟩
      have hd : DvAll S.K H1 ρ1 (rgV 0 n) ((List.range n.toNat).map fun i => D.int (i : Nat)) := by
        have z := dv_range (K := S.K) (H := H1) (ρ := ρ1) 0 (List.range n.toNat)
        have e0 : rgV 0 n = (List.range n.toNat).map fun i => V.int (0 + (i : Nat)) := by
          unfold rgV
          rw [Int.sub_zero]
        rw [e0]
        have e3 : ((List.range n.toNat).map fun i => D.int (i : Nat)) = (List.range n.toNat).map fun i => D.int (0 + (i : Nat)) := by
          congr 1
          funext i
          rw [Int.zero_add]
        rw [e3]
        exact z
      obtain ⟨z1, z2, z3, z4, z5, z6⟩ := lay_free st1 R1 hl hd
      exact q l _ _ _ z1 z2 z3 z4 z5 z6
    · cases h
  · cases h

/-! ### lists put together -/
/-- a list operand: new, or noted -/
def SLo (S : Stat) (sc : Scope) (e : Expr) (f : FL) : Prop := ∃ te, (∀ X, XOk S sc X → PE X e te) ∧
  ∀ σ env H ρ M ds M', EnvR S.K H ρ σ env → RelM S.K H ρ M → f env M = some (ds, M') →
    ∀ Q : VK, (∀ p vs H' ρ', Stp H H' ρ ρ' → RelM S.K H' ρ' M' → H' p = some (.lst vs) → (p ∉ ρ' ∧ H p = none ∨ ∃ n : Nat, ρ'[n]? = some p ∧ M'[n]? = some (.lst ds)) → DvAll S.K H' ρ' vs ds → Q (.ref p) H') → te σ H Q
theorem slo_new {f : FL} (h : SF S sc e f) : SLo S sc e f := by
  obtain ⟨te, pe, se⟩ := h
  exact ⟨te, pe, fun σ env H ρ M ds M' E R h Q q => se σ env H ρ M ds M' E R h Q fun p vs H' ρ' st R' hp hn hf hd => q p vs H' ρ' st R' hp (.inl ⟨hn, hf⟩) hd⟩
def fItemsL (f : FE) : FL := fun env M => bindO (f env M) fun d M1 => match d with
  | .ref n => match M1[n]? with
    | some (.lst xs) => some (xs, M1)
    | none => none
  | _ => none
theorem slo_ref {fe : FE} (h : SE S sc e fe) : SLo S sc e (fItemsL fe) := by
  obtain ⟨te, pe, se⟩ := h
  refine ⟨te, pe, fun σ env H ρ M ds M' E R h Q q => ?_⟩
  obtain ⟨x, M1, e1, h⟩ := bindO_some h
  split at h
  · rename_i n
    split at h
    · rename_i xs hM
      cases h
      refine se σ env H ρ M _ _ E R e1 _ fun v H1 ρ1 st1 R1 r1 => ?_
      cases r1 with
      | ref hn =>
        obtain ⟨vs, hv, hd⟩ := R1.lst hn hM
        exact q _ vs H1 ρ1 st1 R1 hv (.inr ⟨n, hn, hM⟩) hd
    · cases h
  · cases h
def fCat (f g : FL) : FL := fun env M => bindO (f env M) fun xs M1 => bindO (g env M1) fun ys M2 => if xs.length + ys.length ≤ 100000 then some (xs ++ ys, M2) else none
/-- one + other: the one is not changed while the other is made -/
theorem sf_cat {f g : FL} (ha : SF S sc a f) (hb : SLo S sc b g) : SF S sc (.BinOp a .Add b pos) (fCat f g) := by
  obtain ⟨ta, pa, sa⟩ := ha
  obtain ⟨tb, pb, sb⟩ := hb
  refine ⟨tOp rCat ta tb, fun X O => pe_op op_cat (pa X O) (pb X O), fun σ env H ρ M d M' E R h => ?_⟩
  obtain ⟨xs, M1, e1, h⟩ := bindO_some h
  obtain ⟨ys, M2, e2, h⟩ := bindO_some h
  split at h
  · rename_i hl
    cases h
    refine fun Q q => sa σ env H ρ M _ _ E R e1 _ fun p vs H1 ρ1 st1 R1 hp hn hf hd => ?_
    refine sb σ env H1 ρ1 _ _ _ (E.mono st1 R) R1 e2 _ fun p2 vs2 H2 ρ2 st2 R2 hp2 _ hd2 => ?_
    have hp' : H2 p = some (.lst vs) := st2.fr _ _ hp hn
    have hd' := hd.mono st2 R1
    refine ⟨p, p2, vs, vs2, rfl, rfl, hp', hp2, ?_, fun l hl' => ?_⟩
    · rw [hd'.length, hd2.length]
      exact Nat.le_trans hl (by decide)
    · obtain ⟨z1, z2, z3, z4, z5, z6⟩ := lay_free (st1.trans st2) R2 hl' (hd'.append hd2)
      exact q l _ _ _ z1 z2 z3 z4 z5 z6
  · cases h
/-- .. the one a list that is noted: it must be the same behind the other -/
def fCatR (f : FE) (g : FL) : FL := fun env M => bindO (f env M) fun d M1 => bindO (g env M1) fun ys M2 => match d with
  | .ref n => match M2[n]? with
    | some (.lst xs) => if xs.length + ys.length ≤ 100000 then some (xs ++ ys, M2) else none
    | none => none
  | _ => none
theorem sf_catR {f : FE} {g : FL} (ha : SE S sc a f) (hb : SLo S sc b g) : SF S sc (.BinOp a .Add b pos) (fCatR f g) := by
  obtain ⟨ta, pa, sa⟩ := ha
  obtain ⟨tb, pb, sb⟩ := hb
  refine ⟨tOp rCat ta tb, fun X O => pe_op op_cat (pa X O) (pb X O), fun σ env H ρ M d M' E R h => ?_⟩
  obtain ⟨x, M1, e1, h⟩ := bindO_some h
  obtain ⟨ys, M2, e2, h⟩ := bindO_some h
  split at h
  · rename_i n
    split at h
    · rename_i xs hM
      split at h
      · rename_i hl
        cases h
        refine fun Q q => sa σ env H ρ M _ _ E R e1 _ fun v H1 ρ1 st1 R1 r1 => ?_
        cases r1 with
        | ref hn =>
          refine sb σ env H1 ρ1 _ _ _ (E.mono st1 R) R1 e2 _ fun p2 vs2 H2 ρ2 st2 R2 hp2 _ hd2 => ?_
          obtain ⟨vs, hv, hd⟩ := R2.lst (st2.get hn) hM
          refine ⟨_, p2, vs, vs2, rfl, rfl, hv, hp2, ?_, fun l hl' => ?_⟩
          · rw [hd.length, hd2.length]
            exact Nat.le_trans hl (by decide)
          · obtain ⟨z1, z2, z3, z4, z5, z6⟩ := lay_free (st1.trans st2) R2 hl' (hd.append hd2)
            exact q l _ _ _ z1 z2 z3 z4 z5 z6
      · cases h
    · cases h
  · cases h
/-- a new list * n -/
def fRep (f : FL) (g : FE) : FL := fun env M => bindO (f env M) fun xs M1 => bindO (g env M1) fun d M2 => match d with
  | .int k => if k ≤ 100000 ∧ -100000 ≤ k ∧ xs.length * k.toNat ≤ 100000 then some ((List.replicate k.toNat xs).flatten, M2) else none
  | _ => none
theorem sf_rep {f : FL} {g : FE} (ha : SF S sc a f) (hb : SE S sc b g) : SF S sc (.BinOp a .Mult b pos) (fRep f g) := by
  obtain ⟨ta, pa, sa⟩ := ha
  obtain ⟨tb, pb, sb⟩ := hb
  refine ⟨tOp rRep ta tb, fun X O => pe_op op_rep (pa X O) (pb X O), fun σ env H ρ M d M' E R h => ?_⟩
  obtain ⟨xs, M1, e1, h⟩ := bindO_some h
  obtain ⟨y, M2, e2, h⟩ := bindO_some h
  split at h
  · rename_i k
    split at h
    · rename_i hk
      cases h
      refine fun Q q => sa σ env H ρ M _ _ E R e1 _ fun p vs H1 ρ1 st1 R1 hp hn hf hd => ?_
      refine sb σ env H1 ρ1 _ _ _ (E.mono st1 R) R1 e2 _ fun v H2 ρ2 st2 R2 r2 => ?_
      cases r2
      have hp' : H2 p = some (.lst vs) := st2.fr _ _ hp hn
      have hd' := hd.mono st2 R1
      refine ⟨p, k, vs, rfl, rfl, hp', by omega, by omega, ?_, fun l hl' => ?_⟩
      · rw [hd'.length]
        exact Nat.le_trans hk.2.2 (by decide)
      · obtain ⟨z1, z2, z3, z4, z5, z6⟩ := lay_free (st1.trans st2) R2 hl' (dv_rep hd' k.toNat)
        exact q l _ _ _ z1 z2 z3 z4 z5 z6
    · cases h
  · cases h
end

/-! ### == and != -/
def toPL (f : D → Option PyData) : List D → Option (List PyData)
  | [] => some []
  | d :: r => match f d with
    | some p => match toPL f r with
      | some ps => some (p :: ps)
      | none => none
    | none => none
def toP (M : Mem) : Nat → D → Option PyData
  | _, .non => some .none
  | _, .bl b => some (.bool b)
  | _, .int i => some (.int i)
  | _, .str x => some (.str x)
  | n + 1, .tup xs => match toPL (toP M n) xs with
    | some ps => some (.tuple ps)
    | none => none
  | n + 1, .ref k => match M[k]? with
    | some (.lst xs) => match toPL (toP M n) xs with
      | some ps => some (.list ps)
      | none => none
    | none => none
  | n + 1, .cl xs => match toPL (toP M n) xs with
    | some ps => some (.list ps)
    | none => none
  | _, .emp => none
  | 0, .tup _ => none
  | 0, .ref _ => none
  | 0, .cl _ => none
theorem toPL_dp {K : PySem.W.Frag} {H : Hp} {ρ : List Addr} {f : D → Option PyData} (hf : ∀ v d p, Dv K H ρ v d → f d = some p → Dp K H v p) : ∀ {vs : List V} {ds : List D} {ps : List PyData}, DvAll K H ρ vs ds → toPL f ds = some ps → DpAll K H vs ps
  | _, _, _, .nil, h => by cases h; exact .nil
  | _, _, _, .cons r t, h => by
    unfold toPL at h
    split at h
    · rename_i p e1
      split at h
      · rename_i ps e2
        cases h
        exact .cons (hf _ _ _ r e1) (toPL_dp hf t e2)
      · cases h
    · cases h
theorem toP_dp {K : PySem.W.Frag} {H : Hp} {ρ : List Addr} {M : Mem} (R : RelM K H ρ M) : ∀ (n : Nat) (v : V) (d : D) (p : PyData), Dv K H ρ v d → toP M n d = some p → Dp K H v p
  | n, _, _, _, .non, h => by cases n <;> (cases h; exact .non)
  | n, _, _, _, .bl b, h => by cases n <;> (cases h; exact .bl b)
  | n, _, _, _, .int i, h => by cases n <;> (cases h; exact .int i)
  | n, _, _, _, .str x, h => by cases n <;> (cases h; exact .str x)
  | 0, _, _, _, .tup _ _, h => by cases h
  | 0, _, _, _, .ref _, h => by cases h
  | 0, _, _, _, .cl _ _, h => by cases h
  | 0, _, _, _, .emp _, h => by cases h
  | _ + 1, _, _, _, .emp _, h => by cases h
  | n + 1, _, _, _, .cl h1 h2, h => by
    unfold toP at h
    split at h
    · rename_i ps e1
      cases h
      exact .lst h1.sq (toPL_dp (toP_dp R n) h2 e1)
    · cases h
  | n + 1, _, _, _, .tup h1 h2, h => by
    unfold toP at h
    split at h
    · rename_i ps e1
      cases h
      exact .tup h1 (toPL_dp (toP_dp R n) h2 e1)
    · cases h
  | n + 1, _, _, _, .ref h1, h => by
    unfold toP at h
    split at h
    · rename_i xs e0
      split at h
      · rename_i ps e1
        cases h
        obtain ⟨vs, hv, hd⟩ := R.lst h1 e0
        exact .lst (.inl (.inl hv)) (toPL_dp (toP_dp R n) hd e1)
      · cases h
    · cases h
def gEqF (neg : Bool) : Mem → D → D → Option D := fun _ a b => if flatD a = true ∧ flatD b = true ∧ scal (toV a) (toV b) = true then some (.bl (if neg then !decide (toV a = toV b) else decide (toV a = toV b))) else none
def gEqD (neg : Bool) : Mem → D → D → Option D := fun M a b => match toP M 60 a, toP M 60 b with
  | some p, some q => if SeqAt.shaped p = true ∧ SeqAt.shaped q = true then some (.bl (if neg then !PyData.eqv p q else PyData.eqv p q)) else none
  | _, _ => none
section
variable {S : Stat}
theorem opd_eqF : OpD S (compareOp .Eq) (gEqF false) := opd_val (fun sc X _ => op_eq) fun H ρ M x y a b d R ra rb e => by
  unfold gEqF at e
  split at e
  · rename_i h
    cases e
    rw [dv_flat_eq h.1 ra, dv_flat_eq h.2.1 rb]
    exact ⟨_, .bl _, fun Q q => ⟨h.2.2, q⟩⟩
  · cases e
theorem opd_neF : OpD S (compareOp .NotEq) (gEqF true) := opd_val (fun sc X _ => op_ne) fun H ρ M x y a b d R ra rb e => by
  unfold gEqF at e
  split at e
  · rename_i h
    cases e
    rw [dv_flat_eq h.1 ra, dv_flat_eq h.2.1 rb]
    exact ⟨_, .bl _, fun Q q => ⟨h.2.2, q⟩⟩
  · cases e
theorem roomU {k : Nat} {A : Around} (h : Room k A) : A.units + 64 < cLine := by
  have := h.un
  omega
theorem opd_eqD : OpD S (compareOp .Eq) (gEqD false) := opd_val (r := rEqD S.K) (fun sc X O => by rw [← O.K]; exact op_eqD (roomU O.room)) fun H ρ M x y a b d R ra rb e => by
  unfold gEqD at e
  split at e
  · rename_i p q e1 e2
    split at e
    · rename_i h
      cases e
      exact ⟨_, .bl _, fun Q k => ⟨p, q, toP_dp R _ _ _ _ ra e1, toP_dp R _ _ _ _ rb e2, h.1, h.2, k⟩⟩
    · cases e
  · cases e
theorem opd_neD : OpD S (compareOp .NotEq) (gEqD true) := opd_val (r := rNeD S.K) (fun sc X O => by rw [← O.K]; exact op_neD (roomU O.room)) fun H ρ M x y a b d R ra rb e => by
  unfold gEqD at e
  split at e
  · rename_i p q e1 e2
    split at e
    · rename_i h
      cases e
      exact ⟨_, .bl _, fun Q k => ⟨p, q, toP_dp R _ _ _ _ ra e1, toP_dp R _ _ _ _ rb e2, h.1, h.2, k⟩⟩
    · cases e
  · cases e
/-- the operators as they stand in a text -/
def gEq : Mem → D → D → Option D := fun M x y => orO (gEqF false M x y) (gEqD false M x y)
def gNe : Mem → D → D → Option D := fun M x y => orO (gEqF true M x y) (gEqD true M x y)
def gAdd : Mem → D → D → Option D := fun M x y => orO (gAddI M x y) (orO (gAddS M x y) (gAddT M x y))
def gMul : Mem → D → D → Option D := fun M x y => orO (gMulI M x y) (gRepT M x y)
theorem opd_eq : OpD S (compareOp .Eq) gEq := opd_eqF.or opd_eqD
theorem opd_ne : OpD S (compareOp .NotEq) gNe := opd_neF.or opd_neD
theorem opd_add : OpD S (binaryOp .Add) gAdd := opd_addI.or (opd_addS.or opd_addT)
theorem opd_mul : OpD S (binaryOp .Mult) gMul := opd_mulI.or opd_repT
end
end PV

-- PV6
namespace PV
open PySem PySem.Spec PyProof.Rows L2

/-! ### likeness of data, decided -/
mutual
def D.beq : D → D → Bool
  | .non, .non => true
  | .emp, .emp => true
  | .bl a, .bl b => a == b
  | .int a, .int b => a == b
  | .str a, .str b => a == b
  | .tup a, .tup b => D.beqL a b
  | .cl a, .cl b => D.beqL a b
  | .ref a, .ref b => a == b
  | _, _ => false
def D.beqL : List D → List D → Bool
  | [], [] => true
  | a :: r, b :: s => D.beq a b && D.beqL r s
  | _, _ => false
end
mutual
theorem D.beq_eq : ∀ (a b : D), D.beq a b = true → a = b
  | .non, .non, _ => rfl
  | .emp, .emp, _ => rfl
  | .bl a, .bl b, h => by simp only [D.beq, beq_iff_eq] at h; rw [h]
  | .int a, .int b, h => by simp only [D.beq, beq_iff_eq] at h; rw [h]
  | .str a, .str b, h => by simp only [D.beq, beq_iff_eq] at h; rw [h]
  | .tup a, .tup b, h => by simp only [D.beq] at h; rw [D.beqL_eq a b h]
  | .cl a, .cl b, h => by simp only [D.beq] at h; rw [D.beqL_eq a b h]
  | .ref a, .ref b, h => by simp only [D.beq, beq_iff_eq] at h; rw [h]
  | .non, .bl _, h => by cases h
  | .non, .int _, h => by cases h
  | .non, .str _, h => by cases h
  | .non, .tup _, h => by cases h
  | .non, .ref _, h => by cases h
  | .non, .cl _, h => by cases h
  | .non, .emp, h => by cases h
  | .bl _, .non, h => by cases h
  | .bl _, .int _, h => by cases h
  | .bl _, .str _, h => by cases h
  | .bl _, .tup _, h => by cases h
  | .bl _, .ref _, h => by cases h
  | .bl _, .cl _, h => by cases h
  | .bl _, .emp, h => by cases h
  | .int _, .non, h => by cases h
  | .int _, .bl _, h => by cases h
  | .int _, .str _, h => by cases h
  | .int _, .tup _, h => by cases h
  | .int _, .ref _, h => by cases h
  | .int _, .cl _, h => by cases h
  | .int _, .emp, h => by cases h
  | .str _, .non, h => by cases h
  | .str _, .bl _, h => by cases h
  | .str _, .int _, h => by cases h
  | .str _, .tup _, h => by cases h
  | .str _, .ref _, h => by cases h
  | .str _, .cl _, h => by cases h
  | .str _, .emp, h => by cases h
  | .tup _, .non, h => by cases h
  | .tup _, .bl _, h => by cases h
  | .tup _, .int _, h => by cases h
  | .tup _, .str _, h => by cases h
  | .tup _, .ref _, h => by cases h
  | .tup _, .cl _, h => by cases h
  | .tup _, .emp, h => by cases h
  | .ref _, .non, h => by cases h
  | .ref _, .bl _, h => by cases h
  | .ref _, .int _, h => by cases h
  | .ref _, .str _, h => by cases h
  | .ref _, .tup _, h => by cases h
  | .ref _, .cl _, h => by cases h
  | .ref _, .emp, h => by cases h
  | .cl _, .non, h => by cases h
  | .cl _, .bl _, h => by cases h
  | .cl _, .int _, h => by cases h
  | .cl _, .str _, h => by cases h
  | .cl _, .tup _, h => by cases h
  | .cl _, .ref _, h => by cases h
  | .cl _, .emp, h => by cases h
  | .emp, .non, h => by cases h
  | .emp, .bl _, h => by cases h
  | .emp, .int _, h => by cases h
  | .emp, .str _, h => by cases h
  | .emp, .tup _, h => by cases h
  | .emp, .ref _, h => by cases h
  | .emp, .cl _, h => by cases h
theorem D.beqL_eq : ∀ (a b : List D), D.beqL a b = true → a = b
  | [], [], _ => rfl
  | a :: r, b :: s, h => by
    simp only [D.beqL, Bool.and_eq_true] at h
    rw [D.beq_eq a b h.1, D.beqL_eq r s h.2]
  | [], _ :: _, h => by cases h
  | _ :: _, [], h => by cases h
end
mutual
theorem D.beq_self : ∀ (a : D), D.beq a a = true
  | .non => rfl
  | .emp => rfl
  | .bl a => by simp only [D.beq, beq_self_eq_true]
  | .int a => by simp only [D.beq, beq_self_eq_true]
  | .str a => by simp only [D.beq, beq_self_eq_true]
  | .tup a => by simp only [D.beq]; exact D.beqL_self a
  | .cl a => by simp only [D.beq]; exact D.beqL_self a
  | .ref a => by simp only [D.beq, beq_self_eq_true]
theorem D.beqL_self : ∀ (a : List D), D.beqL a a = true
  | [] => rfl
  | a :: r => by simp only [D.beqL, D.beq_self a, D.beqL_self r, Bool.and_self]
end

/-! ### the slots of a block -/
theorem wipe_get (σ : L2.St) : ∀ (vs : List Nat) (k : Nat), (wipe σ vs)[k]? = if k ∈ vs then (σ[k]?).map (fun _ => none) else σ[k]?
  | [], k => by simp [wipe]
  | v :: vs, k => by
    have ih := wipe_get σ vs k
    unfold wipe
    by_cases h : v = k
    · subst h
      rw [List.getElem?_set_self', ih]
      by_cases hv : v ∈ vs
      · simp [hv]
        cases σ[v]? <;> rfl
      · simp [hv]
        cases σ[v]? <;> rfl
    · rw [List.getElem?_set_ne h, ih]
      have : (k ∈ v :: vs) ↔ k ∈ vs := by
        simp [Ne.symm h]
      simp only [this]
theorem wipe_set {σ : L2.St} {i : Nat} {x : Option V} {vs : List Nat} (h : i ∈ vs) : wipe (σ.set i x) vs = wipe σ vs := by
  apply List.ext_getElem?
  intro k
  rw [wipe_get, wipe_get]
  by_cases hk : k ∈ vs
  · rw [if_pos hk, if_pos hk]
    by_cases e : i = k
    · subst e
      rw [List.getElem?_set_self']
      cases σ[i]? <;> rfl
    · rw [List.getElem?_set_ne e]
  · rw [if_neg hk, if_neg hk, List.getElem?_set_ne (fun (e : i = k) => hk (e ▸ h))]
def wipeD (env : Vars) : List Nat → Vars
  | [] => env
  | v :: vs => (wipeD env vs).set v none
theorem EnvR.unset {K : PySem.W.Frag} {H : Hp} {ρ : List Addr} {σ : L2.St} {env : Vars} (E : EnvR K H ρ σ env) (i : Nat) : EnvR K H ρ (σ.set i none) (env.set i none) := by
  refine ⟨by simp [E.len], fun j e h => ?_⟩
  by_cases hij : i = j
  · subst hij
    rw [List.getElem?_set_self'] at h
    cases he : env[i]? with
    | none => rw [he] at h; cases h
    | some x => rw [he] at h; cases h
  · rw [List.getElem?_set_ne hij] at h
    obtain ⟨u, h1, h2⟩ := E.at_ j e h
    exact ⟨u, by rw [List.getElem?_set_ne hij]; exact h1, h2⟩
theorem EnvR.wipe {K : PySem.W.Frag} {H : Hp} {ρ : List Addr} {σ : L2.St} {env : Vars} (E : EnvR K H ρ σ env) : ∀ vs : List Nat, EnvR K H ρ (L2.wipe σ vs) (wipeD env vs)
  | [] => E
  | v :: vs => (EnvR.wipe E vs).unset v

section
variable {S : Stat} {sc : Scope} {e a b c tg : Expr} {es ts : List Expr} {pos p : Pos}
/-! ### targets -/
abbrev FG := D → Vars → Option Vars
abbrev FGs := List D → Vars → Option Vars
def SG (S : Stat) (sc : Scope) (tg : Expr) (h : FG) (js : List Nat) : Prop := ∃ g : TG, (∀ X, XOk S sc X → PG X tg g) ∧
  ∀ σ env H ρ M v d env', EnvR S.K H ρ σ env → RelM S.K H ρ M → Dv S.K H ρ v d → h d env = some env' →
    ∀ Q : L2.St → Hp → Prop, (∀ σ', EnvR S.K H ρ σ' env' → (∀ vs, (∀ j ∈ js, j ∈ vs) → wipe σ' vs = wipe σ vs) → Q σ' H) → g v σ H Q
def SGs (S : Stat) (sc : Scope) (ts : List Expr) (h : FGs) (js : List Nat) : Prop := ∃ g : TGs, (∀ X, XOk S sc X → PGs X ts g) ∧
  ∀ σ env H ρ M vs ds env', EnvR S.K H ρ σ env → RelM S.K H ρ M → DvAll S.K H ρ vs ds → h ds env = some env' →
    ∀ Q : L2.St → Hp → Prop, (∀ σ', EnvR S.K H ρ σ' env' → (∀ ws, (∀ j ∈ js, j ∈ ws) → wipe σ' ws = wipe σ ws) → Q σ' H) → g vs σ H Q
def hName (i : Nat) : FG := fun d env => some (env.set i (some d))
theorem sg_name (i : Nat) {x : Str} (hN : S.N[i]? = some x) (hv : locB sc x = true) : SG S sc (.Name x pos) (hName i) [i] := by
  refine ⟨gName i, fun X O => pg_name (by rw [O.N]; exact O.nd) (by rw [O.N]; exact hN) (O.loc hv).1 (O.loc hv).2, fun σ env H ρ M v d env' E R r h Q q => ?_⟩
  cases h
  exact q _ (E.set r i) fun vs hj => wipe_set (hj i List.mem_cons_self)
def hNil : FGs := fun ds env => match ds with
  | [] => some env
  | _ => none
def hCons (h : FG) (k : FGs) : FGs := fun ds env => match ds with
  | d :: r => match h d env with
    | some env1 => k r env1
    | none => none
  | [] => none
theorem sgs_nil : SGs S sc [] hNil [] := by
  refine ⟨gNil, fun X _ => pgs_nil, fun σ env H ρ M vs ds env' E R r h Q q => ?_⟩
  unfold hNil at h
  split at h
  · cases h
    cases r
    exact ⟨rfl, q σ E fun _ _ => rfl⟩
  · cases h
theorem sgs_cons {h : FG} {k : FGs} {js ls : List Nat} (h1 : SG S sc e h js) (h2 : SGs S sc es k ls) (hs : ∀ env, (assignEach (e :: es) env).map (·.2) = assign e env :: (assignEach es env).map (·.2) := by intro _; rfl) : SGs S sc (e :: es) (hCons h k) (js ++ ls) := by
  obtain ⟨g1, p1, s1⟩ := h1
  obtain ⟨g2, p2, s2⟩ := h2
  refine ⟨gCons g1 g2, fun X O => pgs_cons (p1 X O) (p2 X O) (hs _), fun σ env H ρ M vs ds env' E R r h Q q => ?_⟩
  unfold hCons at h
  split at h
  · rename_i d r'
    split at h
    · rename_i env1 e1
      cases r with
      | cons r rr =>
        refine ⟨_, _, rfl, s1 σ env H ρ M _ d env1 E R r e1 _ fun σ1 E1 w1 => ?_⟩
        refine s2 σ1 env1 H ρ M _ r' env' E1 R rr h _ fun σ2 E2 w2 => q σ2 E2 fun vs hj => ?_
        rw [w2 vs fun j hm => hj j (List.mem_append_right _ hm), w1 vs fun j hm => hj j (List.mem_append_left _ hm)]
    · cases h
  · cases h
def hTup (n : Nat) (k : FGs) : FG := fun d env => match d with
  | .tup xs => if xs.length = n then k xs env else none
  | _ => none
theorem sg_tup {k : FGs} {js : List Nat} {n : Nat} {kk} (h : SGs S sc es k js) (hn : ∀ env, (assignEach es env).length = n := by intro _; rfl) (hst : ∀ env, (assignEach es env).findIdx? (·.1) = none := by intro _; rfl) :
    SG S sc (.Tuple es kk pos) (hTup n k) js := by
  obtain ⟨g, p, s⟩ := h
  refine ⟨gTup S.K n g, fun X O => by rw [← O.K]; exact pg_tup O.calm (p X O) (hn _) (hst _), fun σ env H ρ M v d env' E R r h Q q => ?_⟩
  unfold hTup at h
  split at h
  · rename_i xs
    split at h
    · rename_i hl
      cases r with
      | tup s1 d1 => exact ⟨_, _, rfl, s1, by rw [d1.length]; exact hl, s σ env H ρ M _ xs env' E R d1 h Q q⟩
    · cases h
  · cases h

/-! ### what is walked -/
abbrev Alive := Mem → Bool
abbrev FI := Vars → Mem → Option ((List D × Alive) × Mem)
structure WalkOk (S : Stat) (J : It) (H0 : Hp) (ρ0 : List Addr) (al : Alive) (ds : List D) : Prop where
  turn : ∀ (i : Nat) (H : Hp) (ρ : List Addr) (M : Mem) (d : D), Stp H0 H ρ0 ρ → RelM S.K H ρ M → al M = true → ds[i]? = some d →
    J.go i H ∧ ∀ x H', J.yld i H x H' → Stp H H' ρ ρ ∧ RelM S.K H' ρ M ∧ Dv S.K H' ρ x d
  stop : ∀ (H : Hp) (ρ : List Addr) (M : Mem), Stp H0 H ρ0 ρ → RelM S.K H ρ M → al M = true → J.stop ds.length H
def SI (S : Stat) (sc : Scope) (tg iter : Expr) (f : FI) : Prop := ∃ wi, (∀ X, XOk S sc X → PI X tg iter wi) ∧
  ∀ σ env H ρ M ds al M', EnvR S.K H ρ σ env → RelM S.K H ρ M → f env M = some ((ds, al), M') →
    ∀ R : It → Hp → Prop, (∀ J H' ρ', Stp H H' ρ ρ' → RelM S.K H' ρ' M' → WalkOk S J H' ρ' al ds → R J H') → wi σ H R
def aliveL (n : Nat) (xs : List D) : Alive := fun M => match M[n]? with
  | some (.lst ys) => D.beqL xs ys
  | none => false
theorem aliveL_eq {n : Nat} {xs : List D} {M : Mem} (h : aliveL n xs M = true) : M[n]? = some (.lst xs) := by
  unfold aliveL at h
  split at h
  · rename_i ys e
    rw [e, D.beqL_eq xs ys h]
  · cases h
def yes : Alive := fun _ => true
theorem walk_tup {H : Hp} {ρ : List Addr} {M : Mem} {x : Addr} {vs : List V} {ds : List D} (R : RelM S.K H ρ M) (s : SqT S.K H x vs) (h : DvAll S.K H ρ vs ds) : WalkOk S (Itt S.K x) H ρ yes ds := by
  refine ⟨fun i H1 ρ1 M1 d st R1 _ e => ?_, fun H1 ρ1 M1 st R1 _ => ⟨vs, sqT_stp st R s, by rw [h.length]; exact Nat.le_refl _⟩⟩
  obtain ⟨v, h1, h2⟩ := (h.mono st R).get e
  refine ⟨⟨vs, v, sqT_stp st R s, h1⟩, fun y H2 hy => ?_⟩
  obtain ⟨rfl, hy⟩ := hy
  have z := hy vs (sqT_stp st R s)
  rw [h1] at z
  cases z
  exact ⟨.refl, R1, h2⟩
theorem walk_lst {H : Hp} {ρ : List Addr} {x : Addr} {n : Nat} {ds : List D} (hn : ρ[n]? = some x) : WalkOk S (Itl S.K x) H ρ (aliveL n ds) ds := by
  refine ⟨fun i H1 ρ1 M1 d st R1 al e => ?_, fun H1 ρ1 M1 st R1 al => ?_⟩
  · obtain ⟨vs, hv, hd⟩ := R1.lst (st.get hn) (aliveL_eq al)
    obtain ⟨v, h1, h2⟩ := hd.get e
    refine ⟨⟨vs, v, .inl (.inl hv), h1⟩, fun y H2 hy => ?_⟩
    obtain ⟨rfl, hy⟩ := hy
    have z := hy vs (.inl (.inl hv))
    rw [h1] at z
    cases z
    exact ⟨.refl, R1, h2⟩
  · obtain ⟨vs, hv, hd⟩ := R1.lst (st.get hn) (aliveL_eq al)
    exact ⟨vs, .inl (.inl hv), by rw [hd.length]; exact Nat.le_refl _⟩
theorem walk_cl {H : Hp} {ρ : List Addr} {M : Mem} {x : Addr} {vs : List V} {ds : List D} (R : RelM S.K H ρ M) (s : SqC S.K H x vs) (h : DvAll S.K H ρ vs ds) : WalkOk S (Itl S.K x) H ρ yes ds := by
  refine ⟨fun i H1 ρ1 M1 d st R1 _ e => ?_, fun H1 ρ1 M1 st R1 _ => ⟨vs, (sqC_stp st R s).sq, by rw [h.length]; exact Nat.le_refl _⟩⟩
  obtain ⟨v, h1, h2⟩ := (h.mono st R).get e
  refine ⟨⟨vs, v, (sqC_stp st R s).sq, h1⟩, fun y H2 hy => ?_⟩
  obtain ⟨rfl, hy⟩ := hy
  have z := hy vs (sqC_stp st R s).sq
  rw [h1] at z
  cases z
  exact ⟨.refl, R1, h2⟩
theorem walk_new {H : Hp} {ρ : List Addr} {M : Mem} {x : Addr} {vs : List V} {ds : List D} (R : RelM S.K H ρ M) (hp : H x = some (.lst vs)) (hn : x ∉ ρ) (h : DvAll S.K H ρ vs ds) : WalkOk S (Itl S.K x) H ρ yes ds := by
  refine ⟨fun i H1 ρ1 M1 d st R1 _ e => ?_, fun H1 ρ1 M1 st R1 _ => ⟨vs, .inl (.inl (st.fr _ _ hp hn)), by rw [h.length]; exact Nat.le_refl _⟩⟩
  obtain ⟨v, h1, h2⟩ := (h.mono st R).get e
  refine ⟨⟨vs, v, .inl (.inl (st.fr _ _ hp hn)), h1⟩, fun y H2 hy => ?_⟩
  obtain ⟨rfl, hy⟩ := hy
  have z := hy vs (.inl (.inl (st.fr _ _ hp hn)))
  rw [h1] at z
  cases z
  exact ⟨.refl, R1, h2⟩
def signs (z : Str) : List D := z.cps.toList.map fun c => D.str ⟨#[c]⟩
theorem walk_str {H : Hp} {ρ : List Addr} {z : Str} : WalkOk S (Its z) H ρ yes (signs z) := by
  refine ⟨fun i H1 ρ1 M1 d st R1 _ e => ?_, fun H1 ρ1 M1 st R1 _ => by
    show z.cps.size ≤ (signs z).length
    unfold signs
    simp⟩
  unfold signs at e
  rw [List.getElem?_map] at e
  cases hc : z.cps.toList[i]? with
  | none => rw [hc] at e; cases e
  | some c =>
    rw [hc] at e
    cases e
    have hc' : z.cps[i]? = some c := by
      rw [← hc]
      simp
    refine ⟨by
      show i < z.cps.size
      have := (List.getElem?_eq_some_iff.mp hc).1
      simpa using this, fun y H2 hy => ?_⟩
    obtain ⟨rfl, c', h1, rfl⟩ := hy
    rw [hc'] at h1
    cases h1
    exact ⟨.refl, R1, .str _⟩
def rangeD (lo : Int) (n : Nat) : List D := (List.range n).map fun i => D.int (lo + (i : Nat))
theorem walk_range {H : Hp} {ρ : List Addr} {lo : Int} {n : Nat} : WalkOk S (Itr lo n) H ρ yes (rangeD lo n) := by
  refine ⟨fun i H1 ρ1 M1 d st R1 _ e => ?_, fun H1 ρ1 M1 st R1 _ => by
    show n ≤ (rangeD lo n).length
    unfold rangeD
    simp⟩
  unfold rangeD at e
  rw [List.getElem?_map] at e
  cases hc : (List.range n)[i]? with
  | none => rw [hc] at e; cases e
  | some c =>
    rw [hc] at e
    cases e
    have hi : i < n := by
      have := (List.getElem?_eq_some_iff.mp hc).1
      simpa using this
    have : c = i := by
      rw [List.getElem?_range hi] at hc
      exact (Option.some.inj hc).symm
    subst this
    refine ⟨hi, fun y H2 hy => ?_⟩
    obtain ⟨rfl, rfl⟩ := hy
    exact ⟨.refl, R1, .int _⟩

theorem PI.or {X : Cx} {iter : Expr} {w1 w2 : TI} (h1 : PI X tg iter w1) (h2 : PI X tg iter w2) : PI X tg iter (fun σ H R => w1 σ H R ∨ w2 σ H R) :=
  ⟨fun pins s σ H R I h => h.elim (h1.run pins s σ H R I) (h2.run pins s σ H R I)⟩
/-- a value that is walked: a tuple, a list that is noted, a text -/
def iVal (f : FE) : FI := fun env M => bindO (f env M) fun d M1 => match d with
  | .tup xs => some ((xs, yes), M1)
  | .cl xs => some ((xs, yes), M1)
  | .ref n => match M1[n]? with
    | some (.lst xs) => some ((xs, aliveL n xs), M1)
    | none => none
  | .str z => some ((signs z, yes), M1)
  | _ => none
theorem si_val {fe : FE} (h : SE S sc e fe) : SI S sc tg e (iVal fe) := by
  obtain ⟨te, pe, se⟩ := h
  refine ⟨fun σ H R => iTup S.K te σ H R ∨ (iList S.K te σ H R ∨ iStr te σ H R), fun X O => PI.or (by rw [← O.K]; exact pi_tup (pe X O)) (PI.or (by rw [← O.K]; exact pi_list (pe X O)) (pi_str (pe X O))), fun σ env H ρ M ds al M' E R h W k => ?_⟩
  obtain ⟨x, M1, e1, h⟩ := bindO_some h
  split at h
  · rename_i xs
    cases h
    refine .inl (se σ env H ρ M _ _ E R e1 _ fun v H1 ρ1 st1 R1 r1 => ?_)
    cases r1 with
    | tup s1 d1 => exact ⟨_, rfl, ⟨_, s1⟩, k _ H1 ρ1 st1 R1 (walk_tup R1 s1 d1)⟩
  · rename_i xs
    cases h
    refine .inr (.inl (se σ env H ρ M _ _ E R e1 _ fun v H1 ρ1 st1 R1 r1 => ?_))
    cases r1 with
    | cl s1 d1 => exact ⟨_, rfl, ⟨_, s1.sq⟩, k _ H1 ρ1 st1 R1 (walk_cl R1 s1 d1)⟩
  · rename_i n
    split at h
    · rename_i xs hM
      cases h
      refine .inr (.inl (se σ env H ρ M _ _ E R e1 _ fun v H1 ρ1 st1 R1 r1 => ?_))
      cases r1 with
      | ref hn =>
        obtain ⟨vs, hv, hd⟩ := R1.lst hn hM
        exact ⟨_, rfl, ⟨_, .inl (.inl hv)⟩, k _ H1 ρ1 st1 R1 (walk_lst hn)⟩
    · cases h
  · rename_i z
    cases h
    refine .inr (.inr (se σ env H ρ M _ _ E R e1 _ fun v H1 ρ1 st1 R1 r1 => ?_))
    cases r1
    exact ⟨z, rfl, k _ H1 ρ1 st1 R1 walk_str⟩
  · cases h
/-- a new list that is walked -/
def iNew (f : FL) : FI := fun env M => bindO (f env M) fun xs M1 => some ((xs, yes), M1)
theorem si_new {f : FL} (h : SF S sc e f) : SI S sc tg e (iNew f) := by
  obtain ⟨te, pe, se⟩ := h
  refine ⟨iList S.K te, fun X O => by rw [← O.K]; exact pi_list (pe X O), fun σ env H ρ M ds al M' E R h W k => ?_⟩
  obtain ⟨x, M1, e1, h⟩ := bindO_some h
  cases h
  refine se σ env H ρ M _ _ E R e1 _ fun p vs H1 ρ1 st1 R1 hp hn hf hd => ?_
  exact ⟨p, rfl, ⟨vs, .inl (.inl hp)⟩, k _ H1 ρ1 st1 R1 (walk_new R1 hp hn hd)⟩
def iRange1 (f : FE) : FI := fun env M => bindO (f env M) fun d M1 => match d with
  | .int n => if n ≤ 100000 ∧ -100000 ≤ n then some ((rangeD 0 n.toNat, yes), M1) else none
  | _ => none
theorem si_range1 {fe : FE} (hx : BGl S sc "range") (h : SE S sc e fe) (he : ∀ env, starEach (e :: []) env = (false, eval e env) :: starEach [] env := by intro _; rfl) : SI S sc tg (.Call (.Name "range" p) [e] [] pos) (iRange1 fe) := by
  obtain ⟨te, pe, se⟩ := h
  refine ⟨iRng1 (tCons te tNil), fun X O => pi_range1 (hx.at O).1 (hx.at O).2 (pa_cons (pe X O) pa_nil (he _)) (he _), fun σ env H ρ M ds al M' E R h W k => ?_⟩
  obtain ⟨x, M1, e1, h⟩ := bindO_some h
  split at h
  · rename_i n
    split at h
    · rename_i hn
      cases h
      refine se σ env H ρ M _ _ E R e1 _ fun v H1 ρ1 st1 R1 r1 => ?_
      cases r1
      exact ⟨n, rfl, by omega, by omega, k _ H1 ρ1 st1 R1 walk_range⟩
    · cases h
  · cases h
def iRange2 (f g : FE) : FI := fun env M => bindO (f env M) fun c M1 => bindO (g env M1) fun d M2 => match c, d with
  | .int i, .int j => if i ≤ 100000 ∧ -100000 ≤ i ∧ j ≤ 100000 ∧ -100000 ≤ j then some ((rangeD i (j - i).toNat, yes), M2) else none
  | _, _ => none
theorem si_range2 {fa fb : FE} (hx : BGl S sc "range") (ha : SE S sc a fa) (hb : SE S sc b fb) (he : ∀ env, starEach (a :: [b]) env = (false, eval a env) :: starEach [b] env := by intro _; rfl) (hs : ∀ env, starEach (b :: []) env = (false, eval b env) :: starEach [] env := by intro _; rfl)
    (hpl : ∀ env, (backTo pos (starEach [b] env)).any (·.1) = false := by intro _; rfl) :
    SI S sc tg (.Call (.Name "range" p) [a, b] [] pos) (iRange2 fa fb) := by
  obtain ⟨ta, pa, sa⟩ := ha
  obtain ⟨tb, pb, sb⟩ := hb
  refine ⟨iRng2 (tCons ta (tCons tb tNil)), fun X O => pi_range2 (hx.at O).1 (hx.at O).2 (pa_cons (pa X O) (pa_cons (pb X O) pa_nil (hs _)) (he _)) ((he _).trans (by rw [hs]; rfl)) (hs _), fun σ env H ρ M ds al M' E R h W k => ?_⟩
  obtain ⟨x, M1, e1, h⟩ := bindO_some h
  obtain ⟨y, M2, e2, h⟩ := bindO_some h
  split at h
  · rename_i i j
    split at h
    · rename_i hn
      cases h
      refine sa σ env H ρ M _ _ E R e1 _ fun v H1 ρ1 st1 R1 r1 => ?_
      refine sb σ env H1 ρ1 _ _ _ (E.mono st1 R) R1 e2 _ fun u H2 ρ2 st2 R2 r2 => ?_
      cases r1
      cases r2
      exact ⟨_, _, rfl, ⟨by omega, by omega, by omega, by omega⟩, k _ H2 ρ2 (st1.trans st2) R2 walk_range⟩
    · cases h
  · cases h
/-- enumerate of a list -/
def enumD : Nat → List D → List D
  | _, [] => []
  | i, d :: r => .tup [.int (i : Nat), d] :: enumD (i + 1) r
theorem enumD_get : ∀ (l : List D) (j i : Nat), (enumD j l)[i]? = (l[i]?).map fun d => D.tup [.int ((j + i : Nat) : Int), d]
  | [], j, i => by simp [enumD]
  | d :: r, j, 0 => by simp [enumD]
  | d :: r, j, i + 1 => by
    have := enumD_get r (j + 1) i
    simp only [enumD, List.getElem?_cons_succ, this]
    have e : j + 1 + i = j + (i + 1) := by omega
    rw [e]
theorem enumD_length : ∀ (l : List D) (j : Nat), (enumD j l).length = l.length
  | [], _ => rfl
  | _ :: r, j => congrArg Nat.succ (enumD_length r (j + 1))
theorem walk_enum {H : Hp} {ρ : List Addr} {x : Addr} {al : Alive} {ds : List D}
    (h : ∀ H1 ρ1 M1, Stp H H1 ρ ρ1 → RelM S.K H1 ρ1 M1 → al M1 = true → ∃ vs, H1 x = some (.lst vs) ∧ DvAll S.K H1 ρ1 vs ds) : WalkOk S (Ite S.K x) H ρ al (enumD 0 ds) := by
  refine ⟨fun i H1 ρ1 M1 d st R1 ha e => ?_, fun H1 ρ1 M1 st R1 ha => ?_⟩
  · obtain ⟨vs, hv, hd⟩ := h H1 ρ1 M1 st R1 ha
    rw [enumD_get] at e
    cases hc : ds[i]? with
    | none => rw [hc] at e; cases e
    | some c =>
      rw [hc] at e
      cases e
      obtain ⟨v, h1, h2⟩ := hd.get hc
      refine ⟨⟨vs, v, .inl (.inl hv), h1⟩, fun y H2 hy => ?_⟩
      obtain ⟨T, u, rfl, hT, rfl, hy⟩ := hy
      have z := hy vs (.inl (.inl hv))
      rw [h1] at z
      cases z
      refine ⟨.laid hT, R1.laid hT, .tup (.inl (.inl upd_same)) (.cons ?_ (.cons (h2.mono (.laid hT) R1) .nil))⟩
      rw [Nat.zero_add]
      exact .int _
  · obtain ⟨vs, hv, hd⟩ := h H1 ρ1 M1 st R1 ha
    exact ⟨vs, .inl (.inl hv), by rw [hd.length, enumD_length]; exact Nat.le_refl _⟩
def iEnumL (f : FE) : FI := fun env M => bindO (f env M) fun d M1 => match d with
  | .ref n => match M1[n]? with
    | some (.lst xs) => some ((enumD 0 xs, aliveL n xs), M1)
    | none => none
  | _ => none
theorem si_enum {fe : FE} {kk} {tpos : Pos} (hx : BGl S sc "enumerate") (h : SE S sc e fe) (he : ∀ env, starEach (e :: []) env = (false, eval e env) :: starEach [] env := by intro _; rfl) :
    SI S sc (.Tuple ts kk tpos) (.Call (.Name "enumerate" p) [e] [] pos) (iEnumL fe) := by
  obtain ⟨te, pe, se⟩ := h
  refine ⟨iEnum S.K (tCons te tNil), fun X O => by rw [← O.K]; exact pi_enum (hx.at O).1 (hx.at O).2 (pa_cons (pe X O) pa_nil (he _)) (he _), fun σ env H ρ M ds al M' E R h W k => ?_⟩
  obtain ⟨x, M1, e1, h⟩ := bindO_some h
  split at h
  · rename_i n
    split at h
    · rename_i xs hM
      cases h
      refine se σ env H ρ M _ _ E R e1 _ fun v H1 ρ1 st1 R1 r1 => ?_
      cases r1 with
      | ref hn =>
        obtain ⟨vs, hv, hd⟩ := R1.lst hn hM
        exact ⟨_, vs, rfl, .inl (.inl hv), k _ H1 ρ1 st1 R1 (walk_enum fun H2 ρ2 M2 st2 R2 al => R2.lst (st2.get hn) (aliveL_eq al))⟩
    · cases h
  · cases h
def iEnumF (f : FL) : FI := fun env M => bindO (f env M) fun xs M1 => some ((enumD 0 xs, yes), M1)
theorem si_enumF {f : FL} {kk} {tpos : Pos} (hx : BGl S sc "enumerate") (h : SF S sc e f) (he : ∀ env, starEach (e :: []) env = (false, eval e env) :: starEach [] env := by intro _; rfl) :
    SI S sc (.Tuple ts kk tpos) (.Call (.Name "enumerate" p) [e] [] pos) (iEnumF f) := by
  obtain ⟨te, pe, se⟩ := h
  refine ⟨iEnum S.K (tCons te tNil), fun X O => by rw [← O.K]; exact pi_enum (hx.at O).1 (hx.at O).2 (pa_cons (pe X O) pa_nil (he _)) (he _), fun σ env H ρ M ds al M' E R h W k => ?_⟩
  obtain ⟨x, M1, e1, h⟩ := bindO_some h
  cases h
  refine se σ env H ρ M _ _ E R e1 _ fun p vs H1 ρ1 st1 R1 hp hn hf hd => ?_
  exact ⟨p, vs, rfl, .inl (.inl hp), k _ H1 ρ1 st1 R1 (walk_enum fun H2 ρ2 M2 st2 R2 _ => ⟨vs, st2.fr _ _ hp hn, hd.mono st2 R1⟩)⟩
/-- zip of two tuples -/
def zipD : List D → List D → List D
  | x :: xs, y :: ys => .tup [x, y] :: zipD xs ys
  | _, _ => []
theorem zipD_get : ∀ (xs ys : List D) (i : Nat) (d : D), (zipD xs ys)[i]? = some d → ∃ x y, xs[i]? = some x ∧ ys[i]? = some y ∧ d = .tup [x, y]
  | [], _, _, _, h => by simp [zipD] at h
  | _ :: _, [], _, _, h => by simp [zipD] at h
  | x :: xs, y :: ys, 0, d, h => by
    simp [zipD] at h
    exact ⟨x, y, rfl, rfl, h.symm⟩
  | x :: xs, y :: ys, i + 1, d, h => by
    simp only [zipD, List.getElem?_cons_succ] at h
    obtain ⟨a, b, h1, h2, h3⟩ := zipD_get xs ys i d h
    exact ⟨a, b, h1, h2, h3⟩
theorem zipD_length : ∀ (xs ys : List D), (zipD xs ys).length = min xs.length ys.length
  | [], _ => by simp [zipD]
  | _ :: _, [] => by simp [zipD]
  | _ :: xs, _ :: ys => by
    simp only [zipD, List.length_cons, zipD_length xs ys]
    omega
def iZipT (f g : FE) : FI := fun env M => bindO (f env M) fun c M1 => bindO (g env M1) fun d M2 => match c, d with
  | .tup xs, .tup ys => some ((zipD xs ys, yes), M2)
  | _, _ => none
theorem walk_zipT {H : Hp} {ρ : List Addr} {M : Mem} {x y : Addr} {vs ws : List V} {ds es : List D} (R : RelM S.K H ρ M) (s1 : SqT S.K H x vs) (h1 : DvAll S.K H ρ vs ds) (s2 : SqT S.K H y ws) (h2 : DvAll S.K H ρ ws es) :
    WalkOk S (RZ.ItzT S.K x y) H ρ yes (zipD ds es) := by
  refine ⟨fun i H1 ρ1 M1 d st R1 _ e => ?_, fun H1 ρ1 M1 st R1 _ => ⟨vs, ws, sqT_stp st R s1, sqT_stp st R s2, by rw [h1.length, h2.length, zipD_length]; omega⟩⟩
  obtain ⟨a, b, ea, eb, rfl⟩ := zipD_get ds es i d e
  obtain ⟨v, hv, rv⟩ := (h1.mono st R).get ea
  obtain ⟨w, hw, rw'⟩ := (h2.mono st R).get eb
  refine ⟨⟨vs, ws, v, w, sqT_stp st R s1, sqT_stp st R s2, hv, hw⟩, fun z H2 hy => ?_⟩
  obtain ⟨T, p, q, rfl, hT, rfl, hp, hq⟩ := hy
  have z1 := hp vs (sqT_stp st R s1)
  rw [hv] at z1
  cases z1
  have z2 := hq ws (sqT_stp st R s2)
  rw [hw] at z2
  cases z2
  exact ⟨.laid hT, R1.laid hT, .tup (.inl (.inl upd_same)) (.cons (rv.mono (.laid hT) R1) (.cons (rw'.mono (.laid hT) R1) .nil))⟩
theorem si_zipT {fa fb : FE} {kk} {tpos : Pos} (hx : BGl S sc "zip") (ha : SE S sc a fa) (hb : SE S sc b fb) (he : ∀ env, starEach (a :: [b]) env = (false, eval a env) :: starEach [b] env := by intro _; rfl) (hs : ∀ env, starEach (b :: []) env = (false, eval b env) :: starEach [] env := by intro _; rfl)
    (hpl : ∀ env, (backTo pos (starEach [b] env)).any (·.1) = false := by intro _; rfl) :
    SI S sc (.Tuple ts kk tpos) (.Call (.Name "zip" p) [a, b] [] pos) (iZipT fa fb) := by
  obtain ⟨ta, pa, sa⟩ := ha
  obtain ⟨tb, pb, sb⟩ := hb
  refine ⟨RZ.iZipA S.K (tCons ta (tCons tb tNil)), fun X O => by rw [← O.K]; exact RZ.pi_zipA (hx.at O).1 (hx.at O).2 (pa_cons (pa X O) (pa_cons (pb X O) pa_nil (hs _)) (he _)) (he _) (hpl _), fun σ env H ρ M ds al M' E R h W k => ?_⟩
  obtain ⟨x, M1, e1, h⟩ := bindO_some h
  obtain ⟨y, M2, e2, h⟩ := bindO_some h
  split at h
  · rename_i xs ys
    cases h
    refine sa σ env H ρ M _ _ E R e1 _ fun v H1 ρ1 st1 R1 r1 => ?_
    refine sb σ env H1 ρ1 _ _ _ (E.mono st1 R) R1 e2 _ fun u H2 ρ2 st2 R2 r2 => ?_
    cases r1.mono st2 R1 with
    | tup s1 d1 =>
      cases r2 with
      | tup s2 d2 => exact ⟨_, _, _, _, rfl, .inr ⟨s1, s2, k _ H2 ρ2 (st1.trans st2) R2 (walk_zipT R2 s1 d1 s2 d2)⟩⟩
  · cases h
end
end PV

-- PV7
namespace PV
open PySem PySem.Spec PyProof.Rows L2

section
variable {K : PySem.W.Frag} {H H' : Hp} {ρ ρ' : List Addr}
/-- a list that is not noted is changed -/
theorem Tx.other {p : Addr} {xs ys : List V} (h : H p = some (.lst xs)) : Tx H (upd H p (.lst ys)) ρ ρ :=
  ⟨⟨[], by simp⟩, fun a zs e => by rw [upd_ne (ne_of e h (by intro z; cases z))]; exact e, fun a o u e => by rw [upd_ne (ne_of e h (by intro z; cases z))]; exact e, fun a e => by rw [upd_ne (ne_of e h (by intro z; cases z))]; exact e⟩
theorem RelM.other {M : Mem} {p : Addr} {xs ys : List V} (R : RelM K H ρ M) (h : H p = some (.lst xs)) (hn : p ∉ ρ) : RelM K (upd H p (.lst ys)) ρ M := by
  refine ⟨R.len, R.nd, fun n o e => ?_⟩
  obtain ⟨a, ha, hr⟩ := R.ob n o e
  have hne : a ≠ p := fun z => hn (z ▸ List.mem_of_getElem? ha)
  refine ⟨a, ha, ?_⟩
  cases o with
  | lst zs =>
    obtain ⟨ws, hw, hd⟩ := hr
    exact ⟨ws, by rw [upd_ne hne]; exact hw, hd.tx (.other h)⟩
theorem Stp.notin {a : Addr} {o : HO} (s : Stp H H' ρ ρ') (h : H a = some o) (hn : a ∉ ρ) : a ∉ ρ' := fun hm => by
  rw [s.new a hm hn] at h
  cases h
/-- a step, and then a change of what was new -/
theorem Stp.chg {p : Addr} {o : HO} (s : Stp H H' ρ ρ') (hp : H p = Option.none) (hn : p ∉ ρ') : Stp H (upd H' p o) ρ ρ' :=
  ⟨s.pre, fun a u h ha => by rw [upd_ne (ne_of_none h hp)]; exact s.fr a u h ha, s.new⟩
end

/-! ### a block -/
theorem lookup_relabel {env : PySem.Env} : ∀ {names : List (Str × NameKind)} {x : Str} {k : NameKind}, names.lookup x = some k →
    ∃ k', (names.map fun (n, k) => if (k == NameKind.free && env.scope.kind == .function && env.kindOf n == some .cell) then (n, NameKind.cell) else (n, k)).lookup x = some k' ∧ (k' = k ∨ (k = .free ∧ k' = .cell))
  | [], _, _, h => by simp at h
  | (n, k0) :: r, x, k, h => by
    have ih := @lookup_relabel env r x k
    show ∃ k', List.lookup x ((if (k0 == NameKind.free && env.scope.kind == .function && env.kindOf n == some .cell) = true then (n, NameKind.cell) else (n, k0)) :: _) = some k' ∧ _
    cases hx : x == n with
    | true =>
      simp only [List.lookup_cons, hx] at h
      cases h
      by_cases c : (k0 == NameKind.free && env.scope.kind == .function && env.kindOf n == some .cell) = true
      · rw [if_pos c]
        refine ⟨.cell, by simp only [List.lookup_cons, hx], .inr ⟨?_, rfl⟩⟩
        simp only [Bool.and_eq_true, beq_iff_eq] at c
        exact c.1.1
      · rw [if_neg c]
        exact ⟨k0, by simp only [List.lookup_cons, hx], .inl rfl⟩
    | false =>
      simp only [List.lookup_cons, hx] at h
      obtain ⟨k', e, q⟩ := ih h
      refine ⟨k', ?_, q⟩
      by_cases c : (k0 == NameKind.free && env.scope.kind == .function && env.kindOf n == some .cell) = true
      · rw [if_pos c]
        simp only [List.lookup_cons, hx]
        exact e
      · rw [if_neg c]
        simp only [List.lookup_cons, hx]
        exact e
section
variable {S : Stat} {sc scope : Scope} {X : Cx}
theorem XOk.blk (O : XOk S sc X) (hk : scope.kind = .function) (s : Shared) (H : Hp) (C : Addr) (cl : List (Str × Addr)) (fp : List Addr) : XOk S scope (X.blk s H scope (compEnvC scope cl C X.env) fp) :=
  ⟨O.N, O.nd, O.K, O.mg, O.P, O.w, O.base, O.calm, O.room, ⟨hk, fun x k e => lookup_relabel e⟩, fun x e => by
    show (scope.names.lookup x == some .cell) = true
    rw [e]
    rfl, rfl, O.gd⟩
theorem BlkOk.at {own : List (Str × Nat)} (B : BlkOk S.N sc scope own) (O : XOk S sc X) : BlkOk X.N X.env.scope scope own := by
  rw [O.N]
  refine ⟨B.kind, B.uniq, B.ix, fun y hy e => ?_, B.own⟩
  rcases B.free y hy e with h | h
  · obtain ⟨k', e', q⟩ := O.rsc.look _ _ h
    rcases q with rfl | ⟨q, _⟩
    · exact .inl e'
    · cases q
  · obtain ⟨k', e', q⟩ := O.rsc.look _ _ h
    rcases q with rfl | ⟨_, rfl⟩
    · exact .inr e'
    · exact .inl e'
end
/-- a clause's tests -/
def STs (S : Stat) (sc : Scope) (ifs : List Expr) (f : FT) : Prop := ∃ tt, (∀ X, XOk S sc X → PTs X ifs tt) ∧
  ∀ σ env H ρ M b M', EnvR S.K H ρ σ env → RelM S.K H ρ M → f env M = some (b, M') → EvT S.K tt σ H ρ b M'
def fYes : FT := fun _ M => some (true, M)
theorem sts_nil {S : Stat} {sc : Scope} : STs S sc [] fYes := ⟨tYes, fun X _ => pts_nil, fun σ env H ρ M b M' E R h => by cases h; exact fun Q q => q H ρ .refl R⟩
theorem sts_one {S : Stat} {sc : Scope} {c : Expr} {f : FT} (h : ST S sc c f) : STs S sc [c] f := let ⟨t, p, s⟩ := h; ⟨t, fun X O => pts_one (p X O), s⟩

def compD (h : FG) (t : FT) (f : FE) (al : Alive) (env : Vars) : List D → Mem → Option (List D × Mem)
  | [], M => match al M with
    | true => some ([], M)
    | false => none
  | d :: r, M => match al M with
    | true => match h d env with
      | some env1 => bindO (t env1 M) fun b M1 => match b with
        | true => bindO (f env1 M1) fun y M2 => bindO (compD h t f al env r M2) fun ys M3 => some (y :: ys, M3)
        | false => compD h t f al env r M1
      | none => none
    | false => none
def fLc (i : FI) (vs : List Nat) (h : FG) (t : FT) (f : FE) : FL := fun env M => bindO (i env M) fun q M1 => if q.1.length ≤ 100000 then compD h t f q.2 (wipeD env vs) q.1 M1 else none

theorem wipe_wipe (σ : L2.St) (vs : List Nat) : wipe (wipe σ vs) vs = wipe σ vs := by
  apply List.ext_getElem?
  intro k
  rw [wipe_get, wipe_get]
  by_cases hk : k ∈ vs
  · rw [if_pos hk, if_pos hk]
    cases σ[k]? <;> rfl
  · rw [if_neg hk, if_neg hk]
structure LcInv (S : Stat) (h : FG) (t : FT) (f : FE) (al : Alive) (env : Vars) (xs : List D) (H1 : Hp) (ρ1 : List Addr) (p : Addr) (ds : List D) (M' : Mem) (k : Nat) (Hc : Hp) : Prop where
  le : k ≤ xs.length
  ex : ∃ ρc Mc av ad ys, Stp H1 Hc ρ1 ρc ∧ RelM S.K Hc ρc Mc ∧ Hc p = some (.lst av) ∧ p ∉ ρc ∧ DvAll S.K Hc ρc av ad ∧ ad.length ≤ k ∧
    compD h t f al env (xs.drop k) Mc = some (ys, M') ∧ ad ++ ys = ds
section
variable {S : Stat} {sc scope : Scope} {elt tg iter : Expr} {ifs : List Expr} {own : List (Str × Nat)} {pos : Pos}
theorem sem_lc {wi : TI} {g : TG} {tt : TT} {te : TE} {i : FI} {h : FG} {js : List Nat} {t : FT} {f : FE} {vs : List Nat}
    (si : ∀ σ env H ρ M ds al M', EnvR S.K H ρ σ env → RelM S.K H ρ M → i env M = some ((ds, al), M') → ∀ R : It → Hp → Prop, (∀ J H' ρ', Stp H H' ρ ρ' → RelM S.K H' ρ' M' → WalkOk S J H' ρ' al ds → R J H') → wi σ H R)
    (sg : ∀ σ env H ρ M v d env', EnvR S.K H ρ σ env → RelM S.K H ρ M → Dv S.K H ρ v d → h d env = some env' → ∀ Q : L2.St → Hp → Prop, (∀ σ', EnvR S.K H ρ σ' env' → (∀ vs, (∀ j ∈ js, j ∈ vs) → wipe σ' vs = wipe σ vs) → Q σ' H) → g v σ H Q)
    (st : ∀ σ env H ρ M b M', EnvR S.K H ρ σ env → RelM S.K H ρ M → t env M = some (b, M') → EvT S.K tt σ H ρ b M')
    (se : ∀ σ env H ρ M d M', EnvR S.K H ρ σ env → RelM S.K H ρ M → f env M = some (d, M') → EvX S.K te σ H ρ d M')
    (hj : ∀ j ∈ js, j ∈ vs) (σ env H ρ M ds M') (E : EnvR S.K H ρ σ env) (R : RelM S.K H ρ M) (hh : fLc i vs h t f env M = some (ds, M')) : EvF S.K (tLc wi g tt te vs) σ H ρ ds M' := by
  obtain ⟨⟨xs, al⟩, M1, e1, hh⟩ := bindO_some hh
  split at hh
  · rename_i hl
    have hl : xs.length ≤ 100000 := hl
    have hh : compD h t f al (wipeD env vs) xs M1 = some (ds, M') := hh
    refine fun Q q => si σ env H ρ M xs al M1 E R e1 _ fun J H1 ρ1 s1 R1 W => ?_
    intro p hD
    have hDn : p ∉ ρ1 := R1.fresh hD
    have hD0 : H p = none := s1.none R1 hD
    refine ⟨fun k m Hc => m = xs.length - k ∧ LcInv S h t f al (wipeD env vs) xs H1 ρ1 p ds M' k Hc,
      ⟨xs.length, by simp, Nat.zero_le _, ρ1, M1, [], [], ds, .laid hD, R1.laid hD, upd_same, hDn, .nil, Nat.le_refl _, by simpa using hh, rfl⟩, ?_⟩
    rintro k m Hc ⟨rfl, hk, ρc, Mc, av, ad, ys, sc', Rc, hDc, hDn', hd, had, hcomp, hds⟩
    by_cases hlt : k < xs.length
    · have hx : xs[k]? = some xs[k] := List.getElem?_eq_getElem hlt
      have hdrop : xs.drop k = xs[k] :: xs.drop (k + 1) := List.drop_eq_getElem_cons hlt
      rw [hdrop] at hcomp
      unfold compD at hcomp
      split at hcomp
      · rename_i hal
        obtain ⟨hgo, hy⟩ := W.turn k Hc ρc Mc xs[k] sc' Rc hal hx
        split at hcomp
        · rename_i env1 henv
          refine .inr ⟨hgo, LcInv S h t f al (wipeD env vs) xs H1 ρ1 p ds M' (k + 1), fun Hn hN => ⟨xs.length - (k + 1), by omega, rfl, hN⟩, fun x H' hx' => ?_⟩
          obtain ⟨s2, R2, r2⟩ := hy x H' hx'
          have s12 : Stp H1 H' ρ1 ρc := sc'.trans s2
          have Ew : EnvR S.K H' ρc (wipe σ vs) (wipeD env vs) := (E.mono (s1.trans s12) R).wipe vs
          refine sg _ _ H' ρc Mc x _ env1 Ew R2 r2 henv _ fun σ2 E2 w2 => ?_
          refine ⟨by rw [w2 vs hj]; exact wipe_wipe σ vs, ?_⟩
          obtain ⟨b, M2, e2, hcomp⟩ := bindO_some hcomp
          refine st σ2 env1 H' ρc Mc b M2 E2 R2 e2 _ fun H3 ρ3 s3 R3 => ?_
          have hp3 : H3 p = some (.lst av) := s3.fr _ _ (s2.fr _ _ hDc hDn') hDn'
          have hn3 : p ∉ ρ3 := s3.notin (s2.fr _ _ hDc hDn') hDn'
          cases b with
          | true =>
            rw [if_pos rfl]
            obtain ⟨y, M3, e3, hcomp⟩ := bindO_some hcomp
            obtain ⟨zs, M4, e4, hcomp⟩ := bindO_some hcomp
            cases hcomp
            refine se σ2 env1 H3 ρ3 M2 y M3 (E2.mono s3 R2) R3 e3 _ fun u H4 ρ4 s4 R4 r4 => ?_
            have hp4 : H4 p = some (.lst av) := s4.fr _ _ hp3 hn3
            have hn4 : p ∉ ρ4 := s4.notin hp3 hn3
            have hd4 : DvAll S.K H4 ρ4 av ad := ((hd.mono s2 Rc).mono s3 R2).mono s4 R3
            refine ⟨av, hp4, ?_, by omega, ρ4, M3, av ++ [u], ad ++ [y], zs, (((s12.trans s3).trans s4).chg hD hn4), R4.other hp4 hn4, upd_same, hn4, (hd4.append (.one r4)).tx (.other hp4), by simp; omega, e4, by rw [List.append_assoc]; exact hds⟩
            rw [hd4.length]
            exact Nat.lt_of_le_of_lt (Nat.le_trans had (Nat.le_of_lt hlt)) (Nat.lt_of_le_of_lt hl (by decide))
          | false =>
            rw [if_neg Bool.false_ne_true]
            exact ⟨by omega, ρ3, M2, av, ad, ys, s12.trans s3, R3, hp3, hn3, (hd.mono s2 Rc).mono s3 R2, by omega, hcomp, hds⟩
        · cases hcomp
      · cases hcomp
    · have hk' : k = xs.length := by omega
      subst hk'
      rw [List.drop_length] at hcomp
      unfold compD at hcomp
      split at hcomp
      · rename_i hal
        cases hcomp
        rw [List.append_nil] at hds
        subst hds
        exact .inl ⟨W.stop Hc ρc _ sc' Rc hal, q p av Hc ρc (s1.trans sc') Rc hDc hDn' hD0 hd⟩
      · cases hcomp
  · cases hh
theorem sf_lc {i : FI} {h : FG} {js : List Nat} {t : FT} {f : FE} (hi : SI S sc tg iter i) (hg : SG S scope tg h js) (ht : STs S scope ifs t) (he : SE S scope elt f) (own : List (Str × Nat)) (ok : blkC S.N sc scope own = true) (hj : ∀ j ∈ js, j ∈ own.map (·.2))
    (hs : ∀ env x, foldedSetIterable iter env x = pure x := by intro _ _; rfl) : SF S sc (.ListComp elt [⟨tg, iter, ifs, 0⟩] scope pos) (fLc i (own.map (·.2)) h t f) := by
  obtain ⟨wi, pi, si⟩ := hi
  obtain ⟨g, pg, sg⟩ := hg
  obtain ⟨tt, pt, st⟩ := ht
  obtain ⟨te, pe, se⟩ := he
  have B := blkOk_by ok
  exact ⟨tLc wi g tt te (own.map (·.2)), fun X O => pe_lc O.calm (by rw [O.N]; exact O.nd) (pi X O) (BlkOk.at B O) (fun s H C cl fp => pg _ (O.blk B.kind s H C cl fp)) (fun s H C cl fp => pt _ (O.blk B.kind s H C cl fp)) (fun s H C cl fp => pe _ (O.blk B.kind s H C cl fp)) (hs _),
    sem_lc si sg st se hj⟩
end
end PV

-- PV8
namespace PV
open PySem PySem.Spec PyProof.Rows L2

/-! ### statements -/
inductive Out where
  | nx (env : Vars) | rt (d : D) | bk (env : Vars) | ct (env : Vars)
abbrev FS := Vars → Mem → Option (Out × Mem)
/-- what is wanted behind a statement that comes out so -/
def OutOk (K : PySem.W.Frag) (H : Hp) (ρ : List Addr) (M' : Mem) (D : Ends) : Out → Prop
  | .nx env' => ∀ σ' H' ρ', Stp H H' ρ ρ' → RelM K H' ρ' M' → EnvR K H' ρ' σ' env' → D.nx σ' H'
  | .bk env' => ∀ σ' H' ρ', Stp H H' ρ ρ' → RelM K H' ρ' M' → EnvR K H' ρ' σ' env' → D.bk σ' H'
  | .ct env' => ∀ σ' H' ρ', Stp H H' ρ ρ' → RelM K H' ρ' M' → EnvR K H' ρ' σ' env' → D.ct σ' H'
  | .rt d => ∀ v H' ρ', Stp H H' ρ ρ' → RelM K H' ρ' M' → Dv K H' ρ' v d → D.rt v H'
def EvS (K : PySem.W.Frag) (t : TS) (σ : L2.St) (H : Hp) (ρ : List Addr) (o : Out) (M' : Mem) : Prop := ∀ D : Ends, OutOk K H ρ M' D o → t D σ H
def SS (S : Stat) (sc : Scope) (st : Stmt) (f : FS) : Prop := ∃ t : TS, (∀ X, XOk S sc X → PS X st t) ∧
  ∀ σ env H ρ M o M', EnvR S.K H ρ σ env → RelM S.K H ρ M → f env M = some (o, M') → EvS S.K t σ H ρ o M'
def SSs (S : Stat) (sc : Scope) (st : List Stmt) (f : FS) : Prop := ∃ t : TS, (∀ X, XOk S sc X → PSs X st t) ∧
  ∀ σ env H ρ M o M', EnvR S.K H ρ σ env → RelM S.K H ρ M → f env M = some (o, M') → EvS S.K t σ H ρ o M'
theorem OutOk.step {K : PySem.W.Frag} {H H1 : Hp} {ρ ρ1 : List Addr} {M' : Mem} {D : Ends} {o : Out} (s : Stp H H1 ρ ρ1) (h : OutOk K H ρ M' D o) : OutOk K H1 ρ1 M' D o := by
  cases o with
  | nx env => exact fun σ' H' ρ' s' R E => h σ' H' ρ' (s.trans s') R E
  | bk env => exact fun σ' H' ρ' s' R E => h σ' H' ρ' (s.trans s') R E
  | ct env => exact fun σ' H' ρ' s' R E => h σ' H' ρ' (s.trans s') R E
  | rt d => exact fun v H' ρ' s' R E => h v H' ρ' (s.trans s') R E
section
variable {S : Stat} {sc : Scope} {st : Stmt} {rest body : List Stmt} {e a b c tg iter : Expr} {es : List Expr} {pos p : Pos}
def gSkip : FS := fun env M => some (.nx env, M)
theorem ss_pass : SS S sc (.Pass pos) gSkip := ⟨tNext, fun X _ => ps_pass, fun σ env H ρ M o M' E R h D k => by cases h; exact k σ H ρ .refl R E⟩
theorem ss_doc {x j p'} : SS S sc (.Expr (.Constant (.str x) j pos) p') gSkip := ⟨tNext, fun X _ => ps_doc, fun σ env H ρ M o M' E R h D k => by cases h; exact k σ H ρ .refl R E⟩
def gBreak : FS := fun env M => some (.bk env, M)
theorem ss_break : SS S sc (.Break pos) gBreak := ⟨tBreak, fun X _ => ps_break, fun σ env H ρ M o M' E R h D k => by cases h; exact k σ H ρ .refl R E⟩
def gCont : FS := fun env M => some (.ct env, M)
theorem ss_continue : SS S sc (.Continue pos) gCont := ⟨tCont, fun X _ => ps_continue, fun σ env H ρ M o M' E R h D k => by cases h; exact k σ H ρ .refl R E⟩
/-- what the proof never comes to -/
def gNever : FS := fun _ _ => none
theorem ss_never : SS S sc st gNever := ⟨tNever, fun X _ => ps_never, fun σ env H ρ M o M' E R h => by cases h⟩
theorem sss_never : SSs S sc body gNever := ⟨tNever, fun X _ => pss_never, fun σ env H ρ M o M' E R h => by cases h⟩
def gRet (f : FE) : FS := fun env M => bindO (f env M) fun d M1 => some (.rt d, M1)
theorem ss_ret {f : FE} (h : SE S sc e f) : SS S sc (.Return (some e) pos) (gRet f) := by
  obtain ⟨te, p, s⟩ := h
  refine ⟨tRet te, fun X O => ps_ret (p X O), fun σ env H ρ M o M' E R h D k => ?_⟩
  obtain ⟨d, M1, e1, h⟩ := bindO_some h
  cases h
  exact s σ env H ρ M _ _ E R e1 _ k
def gRetN : FS := fun _ M => some (.rt .non, M)
theorem ss_retN : SS S sc (.Return none pos) gRetN := ⟨tRetN, fun X _ => ps_retN, fun σ env H ρ M o M' E R h D k => by cases h; exact k _ H ρ .refl R .non⟩
def gDrop (f : FE) : FS := fun env M => bindO (f env M) fun _ M1 => some (.nx env, M1)
theorem ss_expr {f : FE} (h : SE S sc e f) (hs : ∀ env, swapsWith e none pos.line env = pure false := by intro _; rfl) : SS S sc (.Expr e pos) (gDrop f) := by
  obtain ⟨te, p, s⟩ := h
  refine ⟨tDrop te, fun X O => ps_expr (p X O) (hs _), fun σ env H ρ M o M' E R h D k => ?_⟩
  obtain ⟨d, M1, e1, h⟩ := bindO_some h
  cases h
  exact s σ env H ρ M _ _ E R e1 _ fun v H' ρ' st R' _ => k σ H' ρ' st R' (E.mono st R)
def gSeq (f g : FS) : FS := fun env M => bindO (f env M) fun o M1 => match o with
  | .nx env1 => g env1 M1
  | o => some (o, M1)
theorem sss_nil : SSs S sc [] gSkip := ⟨tNext, fun X _ => pss_nil, fun σ env H ρ M o M' E R h D k => by cases h; exact k σ H ρ .refl R E⟩
theorem sss_one {f : FS} (h : SS S sc st f) : SSs S sc [st] f := let ⟨t, p, s⟩ := h; ⟨t, fun X O => pss_one (p X O), s⟩
theorem sss_cons {f g : FS} (h : SS S sc st f) (h' : SSs S sc rest g) : SSs S sc (st :: rest) (gSeq f g) := by
  obtain ⟨t, p, s⟩ := h
  obtain ⟨t', p', s'⟩ := h'
  refine ⟨tSeq t t', fun X O => pss_cons (p X O) (p' X O), fun σ env H ρ M o M' E R h D k => ?_⟩
  obtain ⟨o1, M1, e1, h⟩ := bindO_some h
  refine s σ env H ρ M _ _ E R e1 _ ?_
  cases o1 with
  | nx env1 => exact fun σ' H' ρ' st R' E' => s' σ' env1 H' ρ' M1 o M' E' R' h D (k.step st)
  | bk env1 => cases h; exact k
  | ct env1 => cases h; exact k
  | rt d => cases h; exact k
def gIf (t : FT) (f g : FS) : FS := fun env M => bindO (t env M) fun x M1 => match x with
  | true => f env M1
  | false => g env M1
theorem ss_if {t : FT} {f g : FS} (h : ST S sc c t) (h1 : SSs S sc body f) (h2 : SSs S sc rest g) : SS S sc (.If c body rest pos) (gIf t f g) := by
  obtain ⟨tt, p, s⟩ := h
  obtain ⟨t1, p1, s1⟩ := h1
  obtain ⟨t2, p2, s2⟩ := h2
  refine ⟨tIfS tt t1 t2, fun X O => ps_if (p X O) (p1 X O) (p2 X O), fun σ env H ρ M o M' E R h D k => ?_⟩
  obtain ⟨x, M1, e1, h⟩ := bindO_some h
  refine s σ env H ρ M _ _ E R e1 _ fun H' ρ' st R' => ?_
  cases x with
  | true => exact s1 σ env H' ρ' M1 o M' (E.mono st R) R' h D (k.step st)
  | false => exact s2 σ env H' ρ' M1 o M' (E.mono st R) R' h D (k.step st)
/-! assignments -/
def gSet (f : FE) (i : Nat) : FS := fun env M => bindO (f env M) fun d M1 => some (.nx (env.set i (some d)), M1)
theorem sem_set {te : TE} {f : FE} {i : Nat} (s : ∀ σ env H ρ M d M', EnvR S.K H ρ σ env → RelM S.K H ρ M → f env M = some (d, M') → EvX S.K te σ H ρ d M')
    (σ env H ρ M o M') (E : EnvR S.K H ρ σ env) (R : RelM S.K H ρ M) (h : gSet f i env M = some (o, M')) : EvS S.K (tAsg te (gName i)) σ H ρ o M' := fun D k => by
  obtain ⟨d, M1, e1, h⟩ := bindO_some h
  cases h
  exact s σ env H ρ M _ _ E R e1 _ fun v H' ρ' st R' r => k _ H' ρ' st R' ((E.mono st R).set r i)
theorem ss_set (i : Nat) {x : Str} {f : FE} {p' : Pos} (hN : S.N[i]? = some x) (hv : locB sc x = true) (h : SE S sc e f) (hs : ∀ env, swapsWith e (some (.Name x p')) pos.line env = pure false := by intro _; rfl) :
    SS S sc (.Assign [.Name x p'] e pos) (gSet f i) := by
  obtain ⟨te, p, s⟩ := h
  exact ⟨tAsg te (gName i), fun X O => ps_set (by rw [O.N]; exact O.nd) (by rw [O.N]; exact hN) (O.loc hv).1 (p X O) (hs _) (O.loc hv).2, sem_set s⟩
/-- name = [.. for ..] on one line, the name a local -/
theorem ss_setLc (i : Nat) {x : Str} {py pc : Pos} {scope : Scope} {w : FI} {h : FG} {js : List Nat} {t : FT} {f : FE} (hN : S.N[i]? = some x) (hx : sc.names.lookup x = some .local)
    (hi : SI S sc tg iter w) (hg : SG S scope tg h js) (ht : STs S scope es t) (he : SE S scope e f) (own : List (Str × Nat)) (ok : blkC S.N sc scope own = true) (hj : ∀ j ∈ js, j ∈ own.map (·.2))
    (hl : (py.line == pc.line) = true) (ha : (scope.names.any fun (n, k) => n == x && (k == .local || k == .cell)) = false)
    (hs : ∀ env y, foldedSetIterable iter env y = pure y := by intro _ _; rfl) :
    SS S sc (.Assign [.Name x py] (.ListComp e [⟨tg, iter, es, 0⟩] scope pc) pos) (gSet (fNote (fLc w (own.map (·.2)) h t f)) i) := by
  obtain ⟨wi, pi, si⟩ := hi
  obtain ⟨g, pg, sg⟩ := hg
  obtain ⟨tt, pt, st⟩ := ht
  obtain ⟨te, pe, se⟩ := he
  have B := blkOk_by ok
  have sem := sem_lc (vs := own.map (·.2)) si sg st se hj
  refine ⟨tAsg (tLc wi g tt te (own.map (·.2))) (gName i), fun X O => ?_, sem_set fun σ env H ρ M d M' E R h Q q => ?_⟩
  · have hxl : X.env.scope.names.lookup x = some .local := by
      obtain ⟨k', e', q⟩ := O.rsc.look _ _ hx
      rcases q with rfl | ⟨q, _⟩
      · exact e'
      · cases q
    exact ps_setLc O.calm (by rw [O.N]; exact O.nd) (by rw [O.N]; exact hN) hxl (sw_true O.rsc.kind hxl hl ha) (pi X O) (BlkOk.at B O) (fun s H C cl fp => pg _ (O.blk B.kind s H C cl fp)) (fun s H C cl fp => pt _ (O.blk B.kind s H C cl fp)) (fun s H C cl fp => pe _ (O.blk B.kind s H C cl fp)) (hs _)
  · obtain ⟨ds, M1, e1, h⟩ := bindO_some h
    cases h
    refine sem σ env H ρ M ds M1 E R e1 _ fun p vs H' ρ' st R1 hp hn hf hd => ?_
    exact q (.ref p) H' (ρ' ++ [p]) (st.note hf) (R1.note hp hn hd) (.ref (by rw [← R1.len]; simp))
/-- target = value -/
def gAsg (f : FE) (h : FG) : FS := fun env M => bindO (f env M) fun d M1 => match h d env with
  | some env1 => some (.nx env1, M1)
  | none => none
theorem ss_asg {f : FE} {h : FG} {js : List Nat} (he : SE S sc e f) (hg : SG S sc tg h js) (hs : ∀ env, swapsWithSole [tg] e pos.line env = pure false := by intro _; rfl) (hw : ∀ env, swappedStores [tg] e env = pure none := by intro _; rfl)
    (h1 : ∀ env, (assignEach [tg] env).map (·.2) = [assign tg env] := by intro _; rfl) : SS S sc (.Assign [tg] e pos) (gAsg f h) := by
  obtain ⟨te, p, s⟩ := he
  obtain ⟨g, pg, sg⟩ := hg
  refine ⟨tAsg te g, fun X O => ps_asg (p X O) (pg X O) (hs _) (hw _) (h1 _), fun σ env H ρ M o M' E R hh D k => ?_⟩
  obtain ⟨d, M1, e1, hh⟩ := bindO_some hh
  split at hh
  · rename_i env1 e2
    cases hh
    refine s σ env H ρ M _ _ E R e1 _ fun v H' ρ' st R' r => ?_
    exact sg σ env H' ρ' _ v d env1 (E.mono st R) R' r e2 _ fun σ' E' _ => k σ' H' ρ' st R' E'
  · cases hh
/-- a, b = x, y with plain local names -/
def gPar (f : FL) (i j : Nat) : FS := fun env M => bindO (f env M) fun ds M1 => match ds with
  | [x, y] => some (.nx ((env.set i (some x)).set j (some y)), M1)
  | _ => none
theorem ss_par (i j : Nat) {x y : Str} {f : FL} {px py pt pt2 : Pos} {kt k2} (hij : i ≠ j) (hi : S.N[i]? = some x) (hj : S.N[j]? = some y) (hx : sc.names.lookup x = some .local) (hy : sc.names.lookup y = some .local) (ha : SA S sc [a, b] f)
    (hw : ∀ env : PySem.Env, env.scope.kind = .function → env.scope.names.lookup x = some .local → env.scope.names.lookup y = some .local → swappedStores [.Tuple [.Name x px, .Name y py] kt pt] (.Tuple [a, b] k2 pt2) env = pure (some [x, y]))
    (hs : ∀ env, swapsWithSole [.Tuple [.Name x px, .Name y py] kt pt] (.Tuple [a, b] k2 pt2) pos.line env = pure false := by intro _; rfl) :
    SS S sc (.Assign [.Tuple [.Name x px, .Name y py] kt pt] (.Tuple [a, b] k2 pt2) pos) (gPar f i j) := by
  obtain ⟨ta, p, s⟩ := ha
  refine ⟨tPar i j ta, fun X O => ?_, fun σ env H ρ M o M' E R hh D k => ?_⟩
  · have loc : ∀ z : Str, sc.names.lookup z = some .local → X.env.scope.names.lookup z = some .local := fun z hz => by
      obtain ⟨k', e', q⟩ := O.rsc.look _ _ hz
      rcases q with rfl | ⟨q, _⟩
      · exact e'
      · cases q
    exact ps_par O.calm (by rw [O.N]; exact O.nd) (by rw [O.N]; exact hi) (by rw [O.N]; exact hj) hij (loc x hx) (loc y hy) (p X O) (hw _ O.rsc.kind (loc x hx) (loc y hy)) (hs _)
  · obtain ⟨ds, M1, e1, hh⟩ := bindO_some hh
    split at hh
    · cases hh
      refine s σ env H ρ M _ _ E R e1 _ fun vs H' ρ' st R' r => ?_
      cases r with
      | cons r1 r =>
        cases r with
        | cons r2 r =>
          cases r
          exact ⟨_, _, rfl, k _ H' ρ' st R' (((E.mono st R).set r1 i).set r2 j)⟩
    · cases hh
/-- name += int -/
def gAug (f : FE) (i : Nat) : FS := fun env M => match env[i]? with
  | some (some (.int x)) => bindO (f env M) fun d M1 => match d with
    | .int y => some (.nx (env.set i (some (.int (x + y)))), M1)
    | _ => none
  | _ => none
/-! xs.append(e), xs.pop(i), xs[i] = e -/
def fAppend (fo f : FE) : FE := fun env M => bindO (fo env M) fun o M1 => bindO (f env M1) fun d M2 => match o with
  | .ref n => match M2[n]? with
    | some (.lst xs) => if xs.length < 100000 then some (.non, M2.set n (.lst (xs ++ [d]))) else none
    | none => none
  | _ => none
theorem RelM.list_at {K : PySem.W.Frag} {H : Hp} {ρ : List Addr} {M : Mem} {n : Nat} {x : Addr} (R : RelM K H ρ M) (h : ρ[n]? = some x) : ∃ vs, H x = some (.lst vs) := by
  obtain ⟨k, hk, e⟩ := List.mem_iff_getElem.mp (List.mem_of_getElem? h)
  have hkM : k < M.length := by rw [← R.len]; exact hk
  obtain ⟨y, hb, hr⟩ := R.ob k M[k] (List.getElem?_eq_getElem hkM)
  have z : y = x := Option.some.inj (hb.symm.trans ((List.getElem?_eq_getElem hk).trans (congrArg some e)))
  subst z
  cases hm : M[k] with
  | lst xs =>
    rw [hm] at hr
    obtain ⟨vs, hv, _⟩ := hr
    exact ⟨vs, hv⟩
theorem se_append {fo f : FE} {apos : Pos} (ho : SE S sc a fo) (he : SE S sc e f) (hbase : ∀ env, attributeBase a "append" env (eval a env) = eval a env := by intro _; rfl) (hline : (apos.endLine == pos.line) = true := by rfl)
    (hst : ∀ env, starEach (e :: []) env = (false, eval e env) :: starEach [] env := by intro _; rfl) : SE S sc (.Call (.Attribute a "append" apos) [e] [] pos) (fAppend fo f) := by
  obtain ⟨to, po, so⟩ := ho
  obtain ⟨te, pe, se⟩ := he
  refine ⟨tBM S.K "list" rAppend to (tCons te tNil), fun X O => by
    rw [← O.K]
    exact pe_bm PySem.F.plainAttrs_list PySem.F.slot_list_append PySem.F.type_list_append mt_append (po X O) (pa_cons (pe X O) pa_nil (hst _)) (hbase _) (by rw [hst]; rfl) hline (hst _) rfl, fun σ env H ρ M d M' E R h Q q => ?_⟩
  obtain ⟨o, M1, e1, h⟩ := bindO_some h
  obtain ⟨x, M2, e2, h⟩ := bindO_some h
  split at h
  · rename_i n
    split at h
    · rename_i xs hM
      split at h
      · rename_i hl
        cases h
        refine so σ env H ρ M _ _ E R e1 _ fun v H1 ρ1 st1 R1 r1 => ?_
        cases r1 with
        | ref hn =>
          rename_i l
          refine ⟨?_, se σ env H1 ρ1 _ _ _ (E.mono st1 R) R1 e2 _ fun u H2 ρ2 st2 R2 r2 => ?_⟩
          · obtain ⟨vs, hv⟩ := R1.list_at hn
            exact .inl ⟨rfl, vs, .inl (.inl hv)⟩
          · obtain ⟨vs, hv, hd⟩ := R2.lst (st2.get hn) hM
            refine ⟨l, vs, u, rfl, rfl, hv, by rw [hd.length]; exact Nat.lt_of_lt_of_le hl (by decide), ?_⟩
            obtain ⟨z1, z2⟩ := R2.put (st2.get hn) (hd.append (.one r2))
            exact q _ _ ρ2 ((st1.trans st2).trans z1) z2 .non
      · cases h
    · cases h
  · cases h
def fPopAt (fo f : FE) : FE := fun env M => bindO (fo env M) fun o M1 => bindO (f env M1) fun d M2 => match o, d with
  | .ref n, .int i => match M2[n]? with
    | some (.lst xs) => if -100000 ≤ i ∧ i ≤ 100000 then match seqIndex? i xs.length with
      | some k => match xs[k]? with
        | some y => some (y, M2.set n (.lst (xs.eraseIdx k)))
        | none => none
      | none => none
      else none
    | none => none
  | _, _ => none
theorem DvAll.eraseIdx {K : PySem.W.Frag} {H : Hp} {ρ : List Addr} : ∀ {vs : List V} {ds : List D} (k : Nat), DvAll K H ρ vs ds → DvAll K H ρ (vs.eraseIdx k) (ds.eraseIdx k)
  | _, _, _, .nil => .nil
  | _, _, 0, .cons _ t => t
  | _, _, k + 1, .cons h t => .cons h (DvAll.eraseIdx k t)
theorem DvAll.setAt {K : PySem.W.Frag} {H : Hp} {ρ : List Addr} {v : V} {d : D} (r : Dv K H ρ v d) : ∀ {vs : List V} {ds : List D} (k : Nat), DvAll K H ρ vs ds → DvAll K H ρ (vs.set k v) (ds.set k d)
  | _, _, _, .nil => .nil
  | _, _, 0, .cons _ t => .cons r t
  | _, _, k + 1, .cons h t => .cons h (DvAll.setAt r k t)
theorem se_popAt {fo f : FE} {apos : Pos} (ho : SE S sc a fo) (he : SE S sc e f) (hbase : ∀ env, attributeBase a "pop" env (eval a env) = eval a env := by intro _; rfl) (hline : (apos.endLine == pos.line) = true := by rfl)
    (hst : ∀ env, starEach (e :: []) env = (false, eval e env) :: starEach [] env := by intro _; rfl) : SE S sc (.Call (.Attribute a "pop" apos) [e] [] pos) (fPopAt fo f) := by
  obtain ⟨to, po, so⟩ := ho
  obtain ⟨te, pe, se⟩ := he
  refine ⟨tBM S.K "list" rPopAt to (tCons te tNil), fun X O => by
    rw [← O.K]
    exact pe_bm PySem.F.plainAttrs_list PySem.F.slot_list_pop PySem.F.type_list_pop mt_popAt (po X O) (pa_cons (pe X O) pa_nil (hst _)) (hbase _) (by rw [hst]; rfl) hline (hst _) rfl, fun σ env H ρ M d M' E R h Q q => ?_⟩
  obtain ⟨o, M1, e1, h⟩ := bindO_some h
  obtain ⟨x, M2, e2, h⟩ := bindO_some h
  split at h
  · rename_i n i
    split at h
    · rename_i xs hM
      split at h
      · rename_i hi
        split at h
        · rename_i k hk
          split at h
          · rename_i y hy
            cases h
            refine so σ env H ρ M _ _ E R e1 _ fun v H1 ρ1 st1 R1 r1 => ?_
            cases r1 with
            | ref hn =>
              rename_i l
              refine ⟨?_, se σ env H1 ρ1 _ _ _ (E.mono st1 R) R1 e2 _ fun u H2 ρ2 st2 R2 r2 => ?_⟩
              · obtain ⟨vs, hv⟩ := R1.list_at hn
                exact .inl ⟨rfl, vs, .inl (.inl hv)⟩
              · cases r2
                obtain ⟨vs, hv, hd⟩ := R2.lst (st2.get hn) hM
                obtain ⟨w, hw, rw'⟩ := hd.get hy
                refine ⟨l, vs, _, k, w, rfl, rfl, hv, by omega, by omega, by rw [hd.length]; exact hk, hw, ?_⟩
                obtain ⟨z1, z2⟩ := R2.put (st2.get hn) (hd.eraseIdx k)
                exact q _ _ ρ2 ((st1.trans st2).trans z1) z2 (rw'.mono z1 R2)
          · cases h
        · cases h
      · cases h
    · cases h
  · cases h
def gSetIx (f fo fi : FE) : FS := fun env M => bindO (f env M) fun d M1 => bindO (fo env M1) fun o M2 => bindO (fi env M2) fun i M3 => match o, i with
  | .ref n, .int i => match M3[n]? with
    | some (.lst xs) => match ixN xs.length i with
      | some k => some (.nx env, M3.set n (.lst (xs.set k d)))
      | none => none
    | none => none
  | _, _ => none
theorem ss_setIx {f fo fi : FE} {p' : Pos} (he : SE S sc e f) (ho : SE S sc a fo) (hi : SE S sc b fi) (hs : ∀ env, swapsWithSole [.Subscript a b p'] e pos.line env = pure false := by intro _; rfl) (hw : ∀ env, swappedStores [.Subscript a b p'] e env = pure none := by intro _; rfl)
    (h1 : ∀ env, (assignEach [.Subscript a b p'] env).map (·.2) = [assign (.Subscript a b p') env] := by intro _; rfl)
    (ha : ∀ env v, assign (.Subscript a b p') env v = (do
      let ov ← holding [v] (eval a env)
      let iv ← holding [v, ov] (eval b env)
      standAt p'
      holding [v, ov, iv] (setItem ov iv v)
      release [v, ov, iv] []) := by intro _ _; rfl) : SS S sc (.Assign [.Subscript a b p'] e pos) (gSetIx f fo fi) := by
  obtain ⟨te, pe, se⟩ := he
  obtain ⟨to, po, so⟩ := ho
  obtain ⟨ti, pi, si⟩ := hi
  refine ⟨tAsg te (gSub to ti rSetL), fun X O => ps_asg (pe X O) (pg_sub (po X O) (pi X O) set_list (ha _)) (hs _) (hw _) (h1 _), fun σ env H ρ M o M' E R h D k => ?_⟩
  obtain ⟨d, M1, e1, h⟩ := bindO_some h
  obtain ⟨x, M2, e2, h⟩ := bindO_some h
  obtain ⟨y, M3, e3, h⟩ := bindO_some h
  split at h
  · rename_i n i
    split at h
    · rename_i xs hM
      split at h
      · rename_i j hj
        cases h
        refine se σ env H ρ M _ _ E R e1 _ fun v H1 ρ1 st1 R1 r1 => ?_
        refine so σ env H1 ρ1 _ _ _ (E.mono st1 R) R1 e2 _ fun u H2 ρ2 st2 R2 r2 => ?_
        cases r2 with
        | ref hn =>
          rename_i l
          refine si σ env H2 ρ2 _ _ _ ((E.mono st1 R).mono st2 R1) R2 e3 _ fun w H3 ρ3 st3 R3 r3 => ?_
          cases r3
          obtain ⟨vs, hv, hd⟩ := R3.lst (st3.get hn) hM
          refine ⟨l, vs, _, j, rfl, rfl, hv, by rw [hd.length]; exact hj, ?_⟩
          obtain ⟨z1, z2⟩ := R3.put (st3.get hn) (hd.setAt ((r1.mono st2 R1).mono st3 R2) j)
          exact k σ _ ρ3 (((st1.trans st2).trans st3).trans z1) z2 ((((E.mono st1 R).mono st2 R1).mono st3 R2).mono z1 R3)
      · cases h
    · cases h
  · cases h

/-! ### for -/
def forD (h : FG) (f : FS) (al : Alive) : List D → Vars → Mem → Option (Out × Mem)
  | [], env, M => match al M with
    | true => some (.nx env, M)
    | false => none
  | d :: r, env, M => match al M with
    | true => match h d env with
      | some env1 => bindO (f env1 M) fun o M1 => match o with
        | .nx env2 => forD h f al r env2 M1
        | .ct env2 => forD h f al r env2 M1
        | .bk env2 => some (.nx env2, M1)
        | .rt x => some (.rt x, M1)
      | none => none
    | false => none
def gFor (i : FI) (h : FG) (f : FS) : FS := fun env M => bindO (i env M) fun q M1 => forD h f q.2 q.1 env M1
theorem ss_for {i : FI} {h : FG} {js : List Nat} {f : FS} (hi : SI S sc tg iter i) (hg : SG S sc tg h js) (hb : SSs S sc body f) (hs : ∀ env x, foldedSetIterable iter env x = pure x := by intro _ _; rfl) : SS S sc (.For tg iter body [] pos) (gFor i h f) := by
  obtain ⟨wi, pi, si⟩ := hi
  obtain ⟨g, pg, sg⟩ := hg
  obtain ⟨tb, pb, sb⟩ := hb
  refine ⟨tFor wi g tb, fun X O => ps_for (by rw [O.xe]; exact PassesOwn.never) O.calm (pi X O) (pg X O) (pb X O) (hs _), fun σ env H ρ M o M' E R hh D k => ?_⟩
  obtain ⟨⟨xs, al⟩, M1, e1, hh⟩ := bindO_some hh
  have hh : forD h f al xs env M1 = some (o, M') := hh
  refine si σ env H ρ M xs al M1 E R e1 _ fun J H1 ρ1 s1 R1 W => ?_
  refine ⟨fun n m σc Hc => m = xs.length - n ∧ n ≤ xs.length ∧ ∃ ρc Mc envc, Stp H1 Hc ρ1 ρc ∧ RelM S.K Hc ρc Mc ∧ EnvR S.K Hc ρc σc envc ∧ forD h f al (xs.drop n) envc Mc = some (o, M'),
    ⟨xs.length, by simp, Nat.zero_le _, ρ1, M1, env, .refl, R1, E.mono s1 R, by simpa using hh⟩, ?_⟩
  rintro n m σc Hc ⟨rfl, hn, ρc, Mc, envc, sc', Rc, Ec, hf⟩
  by_cases hlt : n < xs.length
  · have hx : xs[n]? = some xs[n] := List.getElem?_eq_getElem hlt
    have hdrop : xs.drop n = xs[n] :: xs.drop (n + 1) := List.drop_eq_getElem_cons hlt
    rw [hdrop] at hf
    unfold forD at hf
    split at hf
    · rename_i hal
      obtain ⟨hgo, hy⟩ := W.turn n Hc ρc Mc xs[n] sc' Rc hal hx
      split at hf
      · rename_i env1 henv
        refine .inr ⟨hgo, fun σn Hn => n + 1 ≤ xs.length ∧ ∃ ρc Mc envc, Stp H1 Hn ρ1 ρc ∧ RelM S.K Hn ρc Mc ∧ EnvR S.K Hn ρc σn envc ∧ forD h f al (xs.drop (n + 1)) envc Mc = some (o, M'),
          fun σn Hn hN => ⟨xs.length - (n + 1), by omega, rfl, hN⟩, fun x H' hx' => ?_⟩
        obtain ⟨s2, R2, r2⟩ := hy x H' hx'
        have s12 : Stp H1 H' ρ1 ρc := sc'.trans s2
        refine sg _ _ H' ρc Mc x _ env1 (Ec.mono s2 Rc) R2 r2 henv _ fun σ2 E2 _ => ?_
        obtain ⟨o1, M2, e2, hf⟩ := bindO_some hf
        refine sb σ2 env1 H' ρc Mc o1 M2 E2 R2 e2 _ ?_
        cases o1 with
        | nx env2 => exact fun σ3 H3 ρ3 s3 R3 E3 => ⟨by omega, ρ3, M2, env2, s12.trans s3, R3, E3, hf⟩
        | ct env2 => exact fun σ3 H3 ρ3 s3 R3 E3 => ⟨by omega, ρ3, M2, env2, s12.trans s3, R3, E3, hf⟩
        | bk env2 =>
          cases hf
          exact fun σ3 H3 ρ3 s3 R3 E3 => k σ3 H3 ρ3 (s1.trans (s12.trans s3)) R3 E3
        | rt y =>
          cases hf
          exact fun v H3 ρ3 s3 R3 r3 => k v H3 ρ3 (s1.trans (s12.trans s3)) R3 r3
      · cases hf
    · cases hf
  · have hn' : n = xs.length := by omega
    subst hn'
    rw [List.drop_length] at hf
    unfold forD at hf
    split at hf
    · rename_i hal
      cases hf
      exact .inl ⟨W.stop Hc ρc _ sc' Rc hal, k σc Hc ρc (s1.trans sc') Rc Ec⟩
    · cases hf
end
end PV

-- PV9
namespace PV
open PySem PySem.Spec PyProof.Rows L2

/-! ### what a def that is left takes along -/
mutual
def D.under (n : Nat) : D → Bool
  | .tup xs => D.underL n xs
  | .cl xs => D.underL n xs
  | .ref k => decide (k < n)
  | .non => true
  | .bl _ => true
  | .int _ => true
  | .str _ => true
  | .emp => true
def D.underL (n : Nat) : List D → Bool
  | [] => true
  | d :: r => D.under n d && D.underL n r
end
def Ob.under (n : Nat) : Ob → Bool
  | .lst xs => D.underL n xs
section
variable {K : PySem.W.Frag} {H : Hp} {ρ l : List Addr}
mutual
theorem Dv.keep : ∀ {v : V} {d : D}, Dv K H (ρ ++ l) v d → D.under ρ.length d = true → Dv K H ρ v d
  | _, _, .non, _ => .non
  | _, _, .bl b, _ => .bl b
  | _, _, .int i, _ => .int i
  | _, _, .str x, _ => .str x
  | _, _, .tup h1 h2, h => .tup h1 (DvAll.keep h2 (by simpa only [D.under] using h))
  | _, _, .cl h1 h2, h => .cl h1 (DvAll.keep h2 (by simpa only [D.under] using h))
  | _, _, .emp h1, _ => .emp h1
  | _, _, .ref h1, h => .ref (by
      have hk := h
      simp only [D.under, decide_eq_true_eq] at hk
      rw [List.getElem?_append_left hk] at h1
      exact h1)
theorem DvAll.keep : ∀ {vs : List V} {ds : List D}, DvAll K H (ρ ++ l) vs ds → D.underL ρ.length ds = true → DvAll K H ρ vs ds
  | _, _, .nil, _ => .nil
  | _, _, .cons h1 h2, h => by
    simp only [D.underL, Bool.and_eq_true] at h
    exact .cons (Dv.keep h1 h.1) (DvAll.keep h2 h.2)
end
theorem RelM.keep {M : Mem} (R : RelM K H (ρ ++ l) M) (h : (M.take ρ.length).all (Ob.under ρ.length) = true) : RelM K H ρ (M.take ρ.length) := by
  have hl : ρ.length ≤ M.length := by
    rw [← R.len]
    simp
  refine ⟨by simp; omega, (List.nodup_append.mp R.nd).1, fun n o e => ?_⟩
  have hn : n < ρ.length := by
    have := (List.getElem?_eq_some_iff.mp e).1
    simp at this
    omega
  have e' : M[n]? = some o := by
    rw [List.getElem?_take_of_lt hn] at e
    exact e
  obtain ⟨a, ha, hr⟩ := R.ob n o e'
  rw [List.getElem?_append_left hn] at ha
  refine ⟨a, ha, ?_⟩
  have hb := List.all_eq_true.mp h o (List.mem_of_getElem? e)
  cases o with
  | lst xs =>
    obtain ⟨vs, hv, hd⟩ := hr
    exact ⟨vs, hv, hd.keep hb⟩
end
def trim (n : Nat) (d : D) (M : Mem) : D × Mem := if flatD d = true ∧ (M.take n).all (Ob.under n) = true then (d, M.take n) else (d, M)
theorem under_flat {n : Nat} {d : D} (h : flatD d = true) : D.under n d = true := by
  cases d <;> first | rfl | cases h

/-! ### defs -/
abbrev FD := List D → Mem → Option (D × Mem)
/-- the text, without the slots and the room -/
structure Txt where
  K : PySem.W.Frag
  mg : Str → Option Value
  P : Program
  w : World
  base : Heap
def Txt.st (T : Txt) (N : List Str) (k : Nat) : Stat := ⟨N, T.K, T.mg, T.P, T.w, T.base, k⟩
/-- a promise: it does as f tells -/
def spD (K : PySem.W.Frag) (n : Nat) (f : FD) : Sp := fun vs H Q _ => vs.length = n ∧ ∃ ρ M ds d M', RelM K H ρ M ∧ DvAll K H ρ vs ds ∧ f ds M = some (d, M') ∧
  ∀ v H' ρ', Stp H H' ρ ρ' → RelM K H' ρ' M' → Dv K H' ρ' v d → Q v H'
/-- a def of the text does so wherever no text is being made: as FnOk, but for what is told of the guards -/
structure FnG (T : Txt) (k : Nat) (f : Addr) (fd : FuncData) (ps : List Str) (sp : Sp) : Prop where
  len : ∀ vs H Q E, sp vs H Q E → vs.length = ps.length
  run : ∀ (A : Around) (out : List Env) (s : Shared) (H : Hp) (args : Args) (us : List Value) (vs : List V) (Q : VK) (E : XK), A.guards = some [] → Room k A → Env0 T.P T.w T.K T.mg T.base A out s H →
    BindsTo s fd args (ps.zip us) → Vals vs us → sp vs H Q E → codeAny (model T.P T.w) A (.call (.ref f) args) (CR CX0 out T.P T.w H s Q E) s
theorem FnG.imp {T : Txt} {k : Nat} {f : Addr} {fd : FuncData} {ps : List Str} {sp sp' : Sp} (F : FnG T k f fd ps sp) (h : ∀ vs H Q E, sp' vs H Q E → sp vs H Q E) : FnG T k f fd ps sp' where
  len vs H Q E q := F.len vs H Q E (h vs H Q E q)
  run A out s H args us vs Q E hg hr e0 hb hv q := F.run A out s H args us vs Q E hg hr e0 hb hv (h vs H Q E q)
theorem FnG.of {T : Txt} {qual : Str} {st : Stmt} {k : Nat} {f : Addr} {fd : FuncData} {N ps : List Str} {sp : Sp} (F : Fun T.K qual qual st f fd) (C : FnScope N ps (defScope st)) (hlen : ∀ vs H Q E, sp vs H Q E → vs.length = ps.length)
    (body : ∀ (cv : Value) (A : Around) (out : List Env) (s : Shared) (H : Hp) (vs : List V) (Q : VK) (E : XK), A.guards = some [] → Room k (A.deeper (envOfC qual (defScope st) s.heap.objs.size f cv)) → sp vs H Q E →
      ∃ t, PSs (cxOf CX0 T.P T.w T.K T.mg T.base N qual (defScope st) f cv A out s H E).nox (defBody st) t ∧ t { nx := fun _ H' => Q .non H', rt := Q } (L2.start N vs) H) : FnG T (k + 1) f fd ps sp := by
  obtain ⟨oc, od, kV, doc, pm, an, cv, ct, osl, rfl, lk, hcd⟩ := F.ex
  refine ⟨hlen, fun A out s H args us vs Q E hg hr e0 hb r hsp => ?_⟩
  have Ks : T.K.In s.heap := fun a o e => (e0.bs a o (e0.mod.kin a o e)).1
  have nl : s.heap.NoLimit := e0.mod.nolimit.keeps fun a o e => (e0.bs a o e).1
  refine codeAny_call_function hr.depth (Ks _ _ lk) rfl C.co C.gen rfl (PySem.W.codeRec_of Ks hcd) (hb _ _ _ _ ?_)
  refine wpAny_newFunctionEnv_cells C.kind (fun y hy => ?_) fun env z s1 x => ?_
  · obtain ⟨y, u⟩ := y
    have hp : y ∈ ps := (List.of_mem_zip hy).1
    exact (C.par y hp).imp_right fun q => ⟨q, PySem.W.cellsFrom_some _ _ _ (.inl q)⟩
  · subst z
    refine ⟨nl.keeps x.toInCall.keep, codeAny_func ?_⟩
    obtain ⟨t, pt, q⟩ := body cv A out s H vs Q E hg (hr.deeper _) hsp
    have I := inv_start (CX := CX0) (E := E) C hr.hd e0 (hlen _ _ _ _ hsp) r x
    refine wpAny_mono (pt.nox.run [] s1 (L2.start N vs) H _ I q) (fun fl s' hs => ?_) fun _ _ z => z
    match fl, hs with
    | .ret u, ⟨v, _, H', J, rv, qv⟩ => exact ⟨v, H', J.os, J.bare, J.base, J.hok, rv, qv⟩
    | .next, ⟨_, H', J, qv⟩ => exact ⟨V.non, H', J.os, J.bare, J.base, J.hok, rfl, qv⟩
    | .brk, ⟨_, _, _, z⟩ => exact z.elim
    | .cont, ⟨_, _, _, z⟩ => exact z.elim
structure DefOk (T : Txt) (x : Str) (n k : Nat) (f : FD) : Prop where
  ex : ∃ (a : Addr) (fd : FuncData) (ps : List Str), T.mg x = some (.ref a) ∧ PySem.W.keepIn T.K (.ref a) = true ∧ Binds T.K fd ps [] ∧ ps.length = n ∧ FnG T k a fd ps (spD T.K n f)
  len : ∀ ds M r, f ds M = some r → ds.length = n
def defD (g : FS) (n m : Nat) : FD := fun ds M => if ds.length = m then bindO (g (ds.map some ++ List.replicate (n - m) none) M) fun o M1 => match o with
    | .rt d => some (trim M.length d M1)
    | .nx _ => some (trim M.length .non M1)
    | _ => none
  else none
theorem env_start {K : PySem.W.Frag} {H : Hp} {ρ : List Addr} {N : List Str} {vs : List V} {ds : List D} (h : DvAll K H ρ vs ds) : EnvR K H ρ (L2.start N vs) (ds.map some ++ List.replicate (N.length - ds.length) none) := by
  unfold L2.start
  refine ⟨by simp [h.length], fun i d e => ?_⟩
  by_cases hi : i < ds.length
  · rw [List.getElem?_append_left (by simpa using hi), List.getElem?_map] at e
    cases hd : ds[i]? with
    | none => rw [hd] at e; cases e
    | some c =>
      rw [hd] at e
      cases e
      obtain ⟨v, h1, h2⟩ := h.get hd
      refine ⟨v, ?_, h2⟩
      rw [List.getElem?_append_left (by rw [List.length_map, h.length]; exact hi), List.getElem?_map, h1]
      rfl
  · rw [List.getElem?_append_right (by simpa using hi), List.getElem?_replicate] at e
    split at e <;> cases e
theorem trim_ok {K : PySem.W.Frag} {H H' : Hp} {ρ ρ' : List Addr} {M M1 M' : Mem} {v : V} {d d' : D} (R : RelM K H ρ M) (s : Stp H H' ρ ρ') (R1 : RelM K H' ρ' M1) (r : Dv K H' ρ' v d) (h : some (trim M.length d M1) = some (d', M')) :
    ∃ ρ2, Stp H H' ρ ρ2 ∧ RelM K H' ρ2 M' ∧ Dv K H' ρ2 v d' := by
  have h := Option.some.inj h
  unfold trim at h
  split at h
  · rename_i hb
    cases h
    obtain ⟨l, rfl⟩ := s.pre
    rw [← R.len] at hb ⊢
    exact ⟨ρ, ⟨⟨[], by simp⟩, s.fr, fun _ h h' => absurd h h'⟩, R1.keep hb.2, r.keep (under_flat hb.1)⟩
  · cases h
    exact ⟨ρ', s, R1, r⟩
theorem defD_len {g : FS} {n m : Nat} {ds : List D} {M : Mem} {r : D × Mem} (e : defD g n m ds M = some r) : ds.length = m := by
  unfold defD at e
  split at e
  · assumption
  · cases e
/-- a def of the text does as its body -/
theorem def_fn {T : Txt} {qual : Str} {st : Stmt} {a : Addr} {fd : FuncData} {N ps : List Str} {k : Nat} {g : FS} (F : Fun T.K qual qual st a fd) (C : FnScope N ps (defScope st))
    (h : SSs (T.st N k) (defScope st) (defBody st) g) : FnG T (k + 1) a fd ps (spD T.K ps.length (defD g N.length ps.length)) := by
  obtain ⟨t, pt, sem⟩ := h
  refine FnG.of F C (fun vs H Q E hs => hs.1) fun cdv A outer s H vs Q E hgd hr hs => ⟨t, pt _ ?_, ?_⟩
  · exact ⟨rfl, C.nd, rfl, rfl, rfl, rfl, rfl, rfl, hr, ⟨C.kind, fun x k e => ⟨k, e, .inl rfl⟩⟩, fun _ _ => rfl, rfl, hgd⟩
  · obtain ⟨hl, ρ, M, ds, d, M', R, r, e, q⟩ := hs
    unfold defD at e
    split at e
    · rename_i hm
      obtain ⟨o, M1, e1, e⟩ := bindO_some e
      have E0 : EnvR T.K H ρ (L2.start N vs) (ds.map some ++ List.replicate (N.length - ps.length) none) := by
        have z := env_start (N := N) r
        rw [hm] at z
        exact z
      refine sem _ _ H ρ M o M1 E0 R e1 _ ?_
      cases o with
      | rt d1 =>
        intro v H' ρ' s' R' r'
        obtain ⟨ρ2, z1, z2, z3⟩ := trim_ok R s' R' r' e
        exact q v H' ρ2 z1 z2 z3
      | nx env' =>
        intro σ' H' ρ' s' R' E'
        obtain ⟨ρ2, z1, z2, z3⟩ := trim_ok R s' R' (.non) e
        exact q .non H' ρ2 z1 z2 z3
      | bk _ => cases e
      | ct _ => cases e
    · cases e
theorem def_ok {T : Txt} {x qual : Str} {st : Stmt} {a : Addr} {fd : FuncData} {N ps : List Str} {k : Nat} {g : FS} (F : Fun T.K qual qual st a fd) (hx : T.mg x = some (.ref a)) (hb : Binds T.K fd ps []) (C : FnScope N ps (defScope st))
    (h : SSs (T.st N k) (defScope st) (defBody st) g) : DefOk T x ps.length (k + 1) (defD g N.length ps.length) :=
  ⟨⟨a, fd, ps, hx, F.kp, hb, rfl, def_fn F C h⟩, fun _ _ _ e => defD_len e⟩
theorem DefOk.congr {T : Txt} {x : Str} {n k : Nat} {f g : FD} (h : DefOk T x n k f) (e : ∀ ds M d M', g ds M = some (d, M') → f ds M = some (d, M')) : DefOk T x n k g := by
  obtain ⟨a, fd, ps, h1, h2, h3, h4, h5⟩ := h.ex
  refine ⟨⟨a, fd, ps, h1, h2, h3, h4, h5.imp fun vs H Q E hs => ?_⟩, fun ds M r er => h.len ds M r (by obtain ⟨d, M'⟩ := r; exact e _ _ _ _ er)⟩
  obtain ⟨hl, ρ, M, ds, d, M', R, r, e1, q⟩ := hs
  exact ⟨hl, ρ, M, ds, d, M', R, r, e _ _ _ _ e1, q⟩
def fDef (f : FD) (fa : FL) : FE := fun env M => bindO (fa env M) fun ds M1 => f ds M1
section
variable {T : Txt} {N : List Str} {k : Nat} {sc : Scope} {e a b c : Expr} {es : List Expr} {pos p : Pos}
theorem se_def {x : Str} {n j : Nat} {f : FD} {fa : FL} (D : DefOk T x n j f) (hj : j ≤ k) (hg : glB sc x = true) (ha : SA (T.st N k) sc (e :: es) fa) (hn : (e :: es).length = n)
    (hd : (x == ("__debug__" : Str)) = false := by decide) (he : ∀ env, starEach (e :: es) env = (false, eval e env) :: starEach es env := by intro _; rfl) (hpl : ∀ env, (backTo pos (starEach es env)).any (·.1) = false := by intro _; rfl) :
    SE (T.st N k) sc (.Call (.Name x p) (e :: es) [] pos) (fDef f fa) := by
  obtain ⟨ad, fd, ps, h1, h2, h3, h4, h5⟩ := D.ex
  obtain ⟨ta, pa, sa⟩ := ha
  refine ⟨tCall (spD T.K n f) [] E0 ta, fun X O => ?_, fun σ env H ρ M d M' E R h Q q => ?_⟩
  · refine ⟨fun pins s σ H Q I h => wpAny_Call_Name_kw (ld_glob I (O.gl hg) (by rw [O.mg]; exact h1) ?_ hd)⟩
    refine PySem.W.callWith_K (h₀ := X.base) I.ok.mod.kin (by rw [O.K]; exact h2) (thn ((pa X O).run pos pins s σ H _ I h) fun us s1 ⟨vs, H1, I1, r, q⟩ => ⟨I1.kIn, ?_⟩) (he _) (hpl _)
    have q : spD T.K n f (vs ++ []) H1 Q E0 := q
    rw [List.append_nil] at q
    have hl : (us ++ []).length = ps.length := by
      rw [List.append_nil, ← r.length]
      exact h5.len _ _ _ _ q
    have hK : T.K.In s1.heap := (show X.K = T.K from O.K) ▸ I1.kIn
    have hb := h3 s1 us hK hl
    rw [List.append_nil] at hb
    have e0 := I1.env0
    have hr := O.room
    rw [O.P, O.w, O.K, O.mg, O.base] at e0
    rw [O.P, O.w]
    refine wpAny_call (codeAny_mono (h5.run X.A X.stack s1 H1 ⟨us, []⟩ us vs Q E0 O.gd (hr.mono hj) e0 hb r q) fun z s' hq => ?_)
    match z, hq with
    | .ok (.ret u), hq => exact I1.after (by rw [O.P, O.w]; exact hq)
    | .ok .next, hq => exact hq.elim
    | .ok .brk, hq => exact hq.elim
    | .ok .cont, hq => exact hq.elim
    | .error _, hq => exact hq.elim
  · obtain ⟨ds, M1, e1, h⟩ := bindO_some h
    refine sa σ env H ρ M ds M1 E R e1 _ fun vs H1 ρ1 st1 R1 r1 => ?_
    show spD T.K n f (vs ++ []) H1 Q E0
    rw [List.append_nil]
    have hl : vs.length = n := by
      rw [r1.length]
      exact D.len ds M1 _ h
    exact ⟨hl, ρ1, M1, ds, d, M', R1, r1, h, fun v H' ρ' s' R' r' => q v H' ρ' (st1.trans s') R' r'⟩
end
end PV

-- PV10
namespace PV
open PySem PySem.Spec PyProof.Rows L2

section
variable {S : Stat} {sc : Scope} {e a b c : Expr} {es : List Expr} {pos p : Pos}
/-! ### a new list at a place -/
def fIxF (f : FL) (g : FE) : FE := fun env M => bindO (f env M) fun xs M1 => bindO (g env M1) fun d M2 => match d with
  | .int i => pairO (L2.atI xs i) M2
  | _ => none
theorem se_ixF {f : FL} {g : FE} (ha : SF S sc a f) (hb : SE S sc b g) (hs : PlainIx b := by exact fun _ _ => rfl) : SE S sc (.Subscript a b pos) (fIxF f g) := by
  obtain ⟨ta, pa, sa⟩ := ha
  obtain ⟨tb, pb, sb⟩ := hb
  refine ⟨tOp (rIxL S.K) ta tb, fun X O => pe_ix (by rw [← O.K]; exact ix_list) (pa X O) (pb X O) hs, fun σ env H ρ M d M' E R h Q q => ?_⟩
  obtain ⟨xs, M1, e1, h⟩ := bindO_some h
  obtain ⟨y, M2, e2, h⟩ := bindO_some h
  split at h
  · rename_i i
    obtain ⟨e3, rfl⟩ := pairO_some h
    refine sa σ env H ρ M _ _ E R e1 _ fun l vs H1 ρ1 st1 R1 hp hn hf hd => ?_
    refine sb σ env H1 ρ1 _ _ _ (E.mono st1 R) R1 e2 _ fun u H2 ρ2 st2 R2 r2 => ?_
    cases r2
    obtain ⟨v, h1, h2⟩ := (hd.mono st2 R1).atI e3
    exact ⟨l, vs, i, v, rfl, rfl, .inl (.inl (st2.fr _ _ hp hn)), h1, q v H2 ρ2 (st1.trans st2) R2 h2⟩
  · cases h

/-! ### x in a new list of flat things -/
def flatL (xs : List D) : Bool := xs.all flatD
def dIn (d : D) (xs : List D) : Bool := xs.any fun y => eqV (toV y) (toV d)
def fInF (neg : Bool) (g : FE) (f : FL) : FE := fun env M => bindO (g env M) fun d M1 => bindO (f env M1) fun xs M2 =>
  if flatD d = true ∧ flatL xs = true then some (.bl (if neg then !dIn d xs else dIn d xs), M2) else none
theorem flat_toV {d : D} (h : flatD d = true) : flatV (toV d) = true := by
  cases d <;> first | rfl | cases h
theorem dvs_flat {K : PySem.W.Frag} {H : Hp} {ρ : List Addr} : ∀ {vs : List V} {ds : List D}, DvAll K H ρ vs ds → flatL ds = true → vs = ds.map toV
  | _, _, .nil, _ => rfl
  | _, _, .cons r t, h => by
    have h' := h
    simp only [flatL, List.all_cons, Bool.and_eq_true] at h'
    rw [List.map_cons, ← dv_flat_eq h'.1 r, ← dvs_flat t h'.2]
theorem all_flatV {ds : List D} (h : flatL ds = true) : (ds.map toV).all flatV = true := by
  rw [List.all_map, List.all_eq_true]
  exact fun d hd => flat_toV (List.all_eq_true.mp h d hd)
theorem sem_inF {neg : Bool} {ta tb : TE} {g : FE} {f : FL}
    (sa : ∀ σ env H ρ M d M', EnvR S.K H ρ σ env → RelM S.K H ρ M → g env M = some (d, M') → EvX S.K ta σ H ρ d M') (sb : ∀ σ env H ρ M d M', EnvR S.K H ρ σ env → RelM S.K H ρ M → f env M = some (d, M') → EvF S.K tb σ H ρ d M')
    (σ env H ρ M d M') (E : EnvR S.K H ρ σ env) (R : RelM S.K H ρ M) (h : fInF neg g f env M = some (d, M')) : EvX S.K (tOp (rIn S.K neg) ta tb) σ H ρ d M' := by
  obtain ⟨x, M1, e1, h⟩ := bindO_some h
  obtain ⟨xs, M2, e2, h⟩ := bindO_some h
  split at h
  · rename_i hf
    cases h
    refine fun Q q => sa σ env H ρ M _ _ E R e1 _ fun v H1 ρ1 st1 R1 r1 => ?_
    refine sb σ env H1 ρ1 _ _ _ (E.mono st1 R) R1 e2 _ fun l vs H2 ρ2 st2 R2 hp hn hfr hd => ?_
    have z1 := dv_flat_eq hf.1 r1
    have z2 := dvs_flat hd hf.2
    subst z1
    subst z2
    refine ⟨l, _, rfl, .inl (.inl (.inl hp)), flat_toV hf.1, all_flatV hf.2, ?_⟩
    have z : inV (toV x) (xs.map toV) = dIn x xs := by
      unfold inV dIn
      rw [List.any_map]
      rfl
    rw [z]
    exact q _ H2 ρ2 (st1.trans st2) R2 (.bl _)
  · cases h
theorem se_inF {g : FE} {f : FL} (ha : SE S sc a g) (hb : SF S sc b f) (hm : behindInMarks .In b = false := by rfl) : SE S sc (.Compare a [.In] [b] pos) (fInF false g f) := by
  obtain ⟨ta, pa, sa⟩ := ha
  obtain ⟨tb, pb, sb⟩ := hb
  exact ⟨tOp (rIn S.K false) ta tb, fun X O => pe_cmpR (by rw [← O.K]; exact op_in_seq) (pa X O) (pb X O) hm, sem_inF sa sb⟩
theorem se_ninF {g : FE} {f : FL} (ha : SE S sc a g) (hb : SF S sc b f) (hm : behindInMarks .NotIn b = false := by rfl) : SE S sc (.Compare a [.NotIn] [b] pos) (fInF true g f) := by
  obtain ⟨ta, pa, sa⟩ := ha
  obtain ⟨tb, pb, sb⟩ := hb
  exact ⟨tOp (rIn S.K true) ta tb, fun X O => pe_cmpR (by rw [← O.K]; exact op_notIn_seq) (pa X O) (pb X O) hm, sem_inF sa sb⟩
theorem st_of {fe : FE} {te : TE} (p : ∀ X, XOk S sc X → PT X e (tTest te)) (s : ∀ σ env H ρ M d M', EnvR S.K H ρ σ env → RelM S.K H ρ M → fe env M = some (d, M') → EvX S.K te σ H ρ d M') : ST S sc e (fTest fe) := ⟨tTest te, p, st_tB s⟩
theorem st_ninF {g : FE} {f : FL} (ha : SE S sc a g) (hb : SF S sc b f) (hm : behindInMarks .NotIn b = false := by rfl) : ST S sc (.Compare a [.NotIn] [b] pos) (fTest (fInF true g f)) := by
  obtain ⟨ta, pa, sa⟩ := ha
  obtain ⟨tb, pb, sb⟩ := hb
  exact st_of (fun X O => pt_cmpR (by rw [← O.K]; exact op_notIn_seq) (pa X O) (pb X O) hm) (sem_inF sa sb)

/-! ### a list held against a new list without items -/
def rNil (neg : Bool) : R2 := fun x y H Q => ∃ l m xs, x = .ref l ∧ y = .ref m ∧ H l = some (.lst xs) ∧ H m = some (.lst []) ∧ Q (.bl (if neg then !xs.isEmpty else xs.isEmpty)) H
theorem vals_nil {us : List Value} (r : Vals [] us) : us = [] := by
  cases r
  rfl
theorem op_eqNil {X : Cx} (hu : X.A.units < cLine) : OpR X (compareOp .Eq) (rNil false) := by
  intro pins s σ H x y v u Q I rx ry h
  obtain ⟨l, m, xs, rfl, rfl, hl, hm, q⟩ := h
  cases rx
  cases ry
  obtain ⟨as, ra, ⟨oa, na, ea, ca, _, da⟩, _⟩ := I.list (.inl (.inl hl))
  obtain ⟨bs, rb, ⟨ob, nb, eb, cb, _, db⟩, _⟩ := I.list (.inl (.inl hm))
  have hb0 := vals_nil rb
  subst hb0
  have IA : s.heap.IsList l as.toArray := ⟨oa, ea, ca, na, da⟩
  have IB : s.heap.IsList m ([] : List Value).toArray := ⟨ob, eb, cb, nb, db⟩
  have hlen := ra.length
  cases as with
  | nil =>
    have z : xs = [] := List.length_eq_zero_iff.mp hlen
    subst z
    exact SeqAt.eq_listAt (e := fun _ => true) IA IB rfl hu (fun j h1 _ => absurd h1 (Nat.not_lt_zero j)) ⟨.bl true, H, I, rfl, q⟩
  | cons t ts =>
    cases xs with
    | nil => cases hlen
    | cons x0 xs0 => exact SeqAt.eq_list_lengthsAt IA IB rfl hu ⟨.bl false, H, I, rfl, q⟩
end
end PV

-- PV11
/-! a set made of a list of texts: how many unlike ones -/
namespace PV
open PySem PySem.Spec PyProof.Rows L2

def putNew (acc : List Str) (k : Str) : List Str := if acc.any (· == k) = true then acc else acc ++ [k]
/-- the first i texts, each once -/
def metS (val : Nat → Str) : Nat → List Str
  | 0 => []
  | i + 1 => putNew (metS val i) (val i)
theorem metS_le (val : Nat → Str) : ∀ i, (metS val i).length ≤ i
  | 0 => Nat.le_refl _
  | i + 1 => by
    have ih := metS_le val i
    unfold metS putNew
    split
    · omega
    · rw [List.length_append, List.length_singleton]
      omega
theorem putNew_any (l : List Str) (v k : Str) : (putNew l v).any (· == k) = (l.any (· == k) || decide (k = v)) := by
  unfold putNew
  by_cases h : l.any (· == v) = true
  · rw [if_pos h]
    by_cases e : k = v
    · subst e
      rw [h]
      simp
    · simp [e]
  · rw [if_neg h, List.any_append]
    by_cases e : k = v
    · subst e
      simp
    · have hb : (v == k) = false := beq_eq_false_iff_ne.mpr fun z => e z.symm
      simp [hb, e]
theorem putNew_len (l : List Str) (v : Str) : (putNew l v).length = if l.any (· == v) = true then l.length else l.length + 1 := by
  unfold putNew
  split <;> simp
section
variable {P : Program} {w : World} {A : Around} {R : Result → Shared → Prop} {it : Addr} {fp wr : List Addr} {G : Array GenState → Array GenState → Prop} {n : Nat} {Y : Nat → Value → Prop} {St : Nat → Shared → Prop}
theorem set_alike {knd : KeyKind P w Str} {h : Heap} {a : Addr} {F F' : Str → Bool} {m m' : Nat} (x : h.SetOf knd a F m) (e : ∀ k, F k = F' k) (em : m = m') : h.SetOf knd a F' m' := by
  have z : F = F' := funext e
  subst z
  subst em
  exact x
theorem texts_loop (W : WalksS P w A.in1 it fp wr G n Y St) (a : Addr) (ha : a ∉ fp) (val : Nat → Str) (hval : ∀ i v, Y i v → ∃ t, v = .str (val i) t) (hb : n + 1 < scanBound) :
    ∀ (k i : Nat) (s : Shared), n - i = k → i ≤ n → St i s → s.heap.SetOf (strKind P w) a (fun x => (metS val i).any (· == x)) (metS val i).length →
      (∀ s1, Moved (a :: wr) G s s1 → s1.heap.SetOf (strKind P w) a (fun x => (metS val n).any (· == x)) (metS val n).length → R (.ok (.ret .none)) s1) →
      codeAny (model P w) A (.builtin "set.update.loop" ⟨[.ref a, .ref it], []⟩) R s := by
  have haw : a ∉ wr := fun z => ha (W.sub _ z)
  have sub : ∀ b ∈ wr, b ∈ a :: wr := fun b q => List.mem_cons_of_mem _ q
  intro k
  induction k with
  | zero =>
    intro i s hk hi hst hS hR
    obtain rfl : i = n := by omega
    refine codeAny_builtin F.entry_set_update_loop ?_
    rw [Around.under_plainId F.plain_set_update_loop _]
    show wpAny _ A.in1 (pyNext (.ref it) >>= _) _ _ s
    refine wpAny_bind (W.done s _ _ hst fun s1 mv => ?_)
    show wpAny _ A.in1 (ret Value.none) _ _ s1
    obtain ⟨o, es, ep, t, ho, q⟩ := hS
    exact wpAny_pure (hR s1 (mv.mono sub) ⟨o, es, ep, t, mv.heap a _ haw ho, q⟩)
  | succ k ih =>
    intro i s hk hi hst hS hR
    have lt : i < n := by omega
    refine codeAny_builtin F.entry_set_update_loop ?_
    rw [Around.under_plainId F.plain_set_update_loop _]
    show wpAny _ A.in1 (pyNext (.ref it) >>= _) _ _ s
    refine wpAny_bind (W.item i s _ _ lt hst fun v s1 hy hst1 mv => ?_)
    obtain ⟨t, rfl⟩ := hval i v hy
    have hS1 : s1.heap.SetOf (strKind P w) a (fun x => (metS val i).any (· == x)) (metS val i).length := by
      obtain ⟨o, es, ep, tb, ho, q⟩ := hS
      exact ⟨o, es, ep, tb, mv.heap a _ haw ho, q⟩
    show wpAny _ A.in1 (holding [Value.str (val i) t] (setAdd a (.str (val i) t)) >>= _) _ _ s1
    refine wpAny_bind (wpAny_holding ?_)
    unfold setAdd
    refine wpAny_holding ?_
    have isv : (strKind P w).is (val i) (.str (val i) t) = true := by
      show Value.isStrOf (val i) (.str (val i) t) = true
      simp [Value.isStrOf]
    refine wpAny_bind ((strKind P w).pyHash (k := val i) isv ?_)
    have room : (metS val i).length + 1 < scanBound := by have := metS_le val i; omega
    refine wpAny_setAddHashed_of (knd := strKind P w) (s := { s1 with toks := s1.toks + 1 }) isv rfl hS1 room fun h2 sb hS2 => ?_
    have hS3 : h2.SetOf (strKind P w) a (fun x => (metS val (i + 1)).any (· == x)) (metS val (i + 1)).length :=
      set_alike hS2 (fun x => by rw [metS, putNew_any]) (by rw [metS, putNew_len])
    refine wpAny_pure ⟨plainId_quiet F.plain_set_update_loop _, ih (i + 1) _ (by omega) lt (W.frame _ s1 _ _ hst1 (Nat.le_succ _) fun b hb o e => ?_) hS3 fun s3 mv3 hS4 => ?_⟩
    · rw [sb.2 b (fun z : b = a => ha (by rw [← z]; exact hb))]
      exact e
    · refine hR s3 (Moved.trans W.gtrans ((mv.mono sub).then_heap (Nat.le_succ _) fun b o hb e => ?_) mv3) hS4
      rw [sb.2 b (fun z : b = a => hb (by rw [z]; exact List.mem_cons_self))]
      exact e
end
section
variable {prog : Program} {w : World} {A : Around} {E : Value → Shared → Prop} {s : Shared}
def newSet (led : Bool) : Obj := { cls := .type "set", dict := none, data := .set #[] 0 (.fresh 0 0 led) }
theorem set_of_texts {l : Addr} {items : Array Value} {val : Nat → Str} {Q : Value → Shared → Prop}
    (hh : A.handled = none) (hl : s.heap.IsList l items) (hi : ∀ (i : Nat) (v : Value), items[i]? = some v → ∃ t, v = .str (val i) t) (hb : items.size + 1 < scanBound)
    (h : ∀ (h' : Heap) (tk : Nat), h'.SetOf (strKind prog w) s.heap.objs.size (fun x => (metS val items.size).any (· == x)) (metS val items.size).length →
      (∀ b o, b < s.heap.objs.size → s.heap.get? b = some o → h'.get? b = some o) → Q (.ref s.heap.objs.size) { s with heap := h', toks := tk }) :
    wpAny (model prog w) A (call (.type "set") [.ref l]) Q E s := by
  obtain ⟨c, tl, hmro⟩ := F.called_set.mro
  have hmade := F.called_set.made
  have hsub := F.called_set.sub
  refine wpAny_call (codeAny_of_tree ?_)
  show wpAny _ _ (callAny (.type "set") _) _ _ _
  refine wpAny_pure ⟨Code.quiet_builtin _ (by decide +kernel), codeAny_builtin F.entry_type_call ?_⟩
  rw [Around.under_plain (weight_type_call_type "set" [.ref l] []) rfl]
  have h1 := F.called_set.notType
  have h2 := F.called_set.canCreate
  have hct := F.typeCall_set_1 (.ref l)
  repeat (any_goals (first | assumption | wp_step))
  refine codeAny_mono (code_set_new_1 (.ref l) (E := E) (Q₁ := fun obj s₁ => ∃ led : Bool, obj = .ref s.heap.objs.size ∧ s₁ = { s with heap := s.heap.push (newSet led) }) fun led => ⟨led, rfl, rfl⟩) fun r s₁ hr => ?_
  cases r with
  | error e => exact hr
  | ok fl =>
    cases fl with
    | ret obj =>
      obtain ⟨led, rfl, rfl⟩ := hr
      have hS : (s.heap.push (newSet led)).get? s.heap.objs.size = some (newSet led) := Heap.get?_push_size _ rfl
      have hT : Shared.TypeIs { s with heap := s.heap.push (newSet led) } (.ref s.heap.objs.size) "set" := ⟨_, hS, rfl⟩
      have hli := F.called_set.init.lookup
      have hbi := F.called_set.init.bind (.ref s.heap.objs.size)
      repeat (any_goals (first | assumption | wp_step))
      refine codeAny_mono (codeAny_call_builtin (R := wants (fun r s₂ => r = .none ∧ ∃ h' tk, s₂ = { s with heap := h', toks := tk } ∧
          h'.SetOf (strKind prog w) s.heap.objs.size (fun x => (metS val items.size).any (· == x)) (metS val items.size).length ∧
          (∀ b o, b < s.heap.objs.size → s.heap.get? b = some o → h'.get? b = some o)) E) F.called_set.init.plain F.entry_set_init (check_set_init_1 hT ?_)) fun r₂ s₂ hr₂ => ?_
      · obtain ⟨ol, hol, hcl, nl, hdl⟩ := hl
        obtain ⟨ocls, odict, odata, oslots⟩ := ol
        simp only at hcl hdl
        subst hcl; subst hdl
        have hol' : (s.heap.push (newSet led)).get? l = some { cls := .type "list", dict := odict, data := .seq items nl, slots := oslots } := Heap.get?_push_of_some _ hol
        have hsls := F.sub_list_set
        have hslf := F.sub_list_frozenset
        have hne : (Value.type "list" == Value.type "dict") = false := by decide
        have hl1 : (s.heap.push (newSet led)).IsList l items := ⟨_, hol', rfl, nl, rfl⟩
        unfold Builtin.«set.__init__» noKeywords Builtin.Frozenset.updateFrom
        generalize hPI : pyIter = PI
        wp_walk
        subst hPI
        refine wpAny_pyIter_list hl1 ?_
        refine wpAny_bind (wpAny_runValue ?_)
        have hlS : l < s.heap.objs.size := Heap.lt_size hol
        have hh3 : A.in1.in1.in1.handled = none := by simp [hh]
        have hneI : l ≠ (s.heap.push (newSet led)).objs.size := by
          rw [Heap.size_push]
          exact Nat.ne_of_lt (Nat.lt_succ_of_lt hlS)
        have hSf : s.heap.objs.size ∉ [(s.heap.push (newSet led)).objs.size, l] := by
          rw [Heap.size_push]
          simp only [List.mem_cons, List.mem_singleton, List.not_mem_nil, or_false, not_or]
          exact ⟨Nat.ne_of_lt (Nat.lt_succ_self _), Nat.ne_of_gt hlS⟩
        refine texts_loop ((Walks.list hh3 _ l hneI items).toS) s.heap.objs.size
          hSf val hi hb (items.size - 0) 0 _ (by omega) (Nat.zero_le _)
          ⟨⟨_, Heap.get?_push_size _ rfl, rfl, rfl⟩, (hl1.push _)⟩ ?hS0 ?hR
        case hS0 =>
          have hget : ((s.heap.push (newSet led)).push { cls := .type "list_iterator", data := .fields #[.ref l, .int 0 0] }).get? s.heap.objs.size
              = some (newSet led) := Heap.get?_push_of_some _ hS
          exact set_alike ((setObjOf_fresh (knd := strKind prog w) led).setOf hget (by unfold scanBound; omega)) (fun _ => rfl) rfl
        case hR =>
          intro s' hm hS'
          obtain ⟨h', g', d', tk', os'⟩ := s'
          have eg : g' = s.gens := hm.gens
          have ed : d' = s.drawn := hm.drawn
          have eo : os' = s.os := hm.os
          subst eg; subst ed; subst eo
          show wpAny _ _ _ _ _ _
          refine wpAny_pure ?_
          show wpAny _ _ (ret Value.none) _ _ _
          refine wpAny_pure ⟨rfl, h', tk', rfl, hS', fun b o hb e => ?_⟩
          have hb1 : b ≠ s.heap.objs.size := Nat.ne_of_lt hb
          have hb2 : b ≠ (s.heap.push (newSet led)).objs.size := by
            rw [Heap.size_push]
            exact Nat.ne_of_lt (Nat.lt_succ_of_lt hb)
          exact hm.heap b o (by simp only [List.mem_cons, List.mem_singleton, List.not_mem_nil, or_false, not_or]; exact ⟨hb1, hb2⟩) (Heap.get?_push_of_some _ (Heap.get?_push_of_some _ e))
      · cases r₂ with
        | error e => exact hr₂
        | ok fl₂ =>
          cases fl₂ with
          | ret r =>
            obtain ⟨rfl, h', tk, rfl, hS', hk'⟩ := hr₂
            repeat (any_goals (first | assumption | wp_step))
            exact h _ _ hS' hk'
          | _ => exact hr₂.elim
    | _ => exact hr.elim
end
end PV

-- PV12
namespace PV
open PySem PySem.Spec PyProof.Rows L2

/-! ### len(set(a new list of texts)) -/
def atS (xs : List Str) (i : Nat) : Str := xs.getD i ⟨#[]⟩
def unlike (xs : List Str) : Nat := (metS (atS xs) xs.length).length
def tLenSetS (K : PySem.W.Frag) (ta : TE) : TE := fun σ H Q => ta σ H fun x H1 => ∃ l, ∃ xs : List Str, x = .ref l ∧ SqL K H1 l (xs.map V.str) ∧ xs.length ≤ 1000 ∧ Q (.int (unlike xs)) H1
theorem strs_get : ∀ {xs : List Str} {us : List Value}, Vals (xs.map V.str) us → ∀ (i : Nat) (v : Value), us[i]? = some v → ∃ t, v = .str (atS xs i) t
  | [], _, r, i, v, e => by
    cases r
    simp at e
  | x :: xs, _, r, i, v, e => by
    cases r with
    | cons r1 rr =>
      cases i with
      | zero =>
        simp at e
        subst e
        exact r1
      | succ i =>
        simp only [List.getElem?_cons_succ] at e
        exact strs_get rr i v e
theorem pe_lenSetS {X : Cx} {a : Expr} {ta : TE} {p p2 q pos : Pos} (hg : Gl X "len") (hm : X.mg "len" = none) (hg2 : Gl X "set") (hm2 : X.mg "set" = none) (hc : X.calm = true) (ha : PE X a ta)
    (na : starEach [a] X.env = (false, eval a X.env) :: starEach [] X.env) : PE X (.Call (.Name "len" p) [.Call (.Name "set" p2) [a] [] q] [] pos) (tLenSetS X.K ta) := by
  refine ⟨fun pins s σ H Q I h => ?_⟩
  refine Call_ (ld_blt I hg hm PySem.boot_len ?_)
  refine callWith_builtin1 (args_cons ?_ rfl) rfl rfl
  refine Call_ (ld_blt I hg2 hm2 PyProof.Rows.boot_set ?_)
  refine callWith_type1 (args_cons (thn (ha.run pins s σ H _ I h) fun v s1 ⟨x, H1, I1, r1, q1⟩ => args_nil ?_) na) na rfl
  obtain ⟨l, xs, rfl, hq, hz, q1⟩ := q1
  cases r1
  obtain ⟨its, r, pl, _⟩ := I1.list hq
  have hl : its.toArray.size = xs.length := by rw [List.size_toArray, ← r.length, List.length_map]
  refine set_of_texts (val := atS xs) (I1.ok.hd hc) pl.isList (fun i v e => strs_get r i v (by simpa using e)) (by rw [hl]; unfold scanBound; omega) fun h2 tk hS hk => ?_
  refine args_nil ?_
  rw [hl] at hS
  obtain ⟨o, es, ep, t, ho, hex, hd, _, _, hb, hf, hn⟩ := hS
  have I2 : Inv X pins σ H1 { s1 with heap := h2, toks := tk } := I1.kept fun b o e => hk b o (Heap.lt_size e) e
  refine call_len_set ho hex hd hf (by unfold scanBound at hb; omega) ⟨.int (unlike xs), H1, I2.tok _, ⟨_, by rw [hn]; rfl⟩, q1⟩
/-- the texts of a list -/
def textsOf : List D → Option (List Str)
  | [] => some []
  | .str x :: r => match textsOf r with
    | some xs => some (x :: xs)
    | none => none
  | _ :: _ => none
theorem textsOf_v {K : PySem.W.Frag} {H : Hp} {ρ : List Addr} : ∀ {ds : List D} {vs : List V} {xs : List Str}, DvAll K H ρ vs ds → textsOf ds = some xs → vs = xs.map V.str ∧ xs.length = ds.length
  | [], _, _, r, h => by
    cases r
    cases h
    exact ⟨rfl, rfl⟩
  | .str b :: ds, _, xs, r, h => by
    cases r with
    | cons r t =>
      cases r
      cases e : textsOf ds with
      | none =>
        simp only [textsOf, e] at h
        cases h
      | some cs =>
        simp only [textsOf, e] at h
        cases h
        obtain ⟨h1, h2⟩ := textsOf_v t e
        exact ⟨by rw [h1]; rfl, by simp [h2]⟩
  | .non :: _, _, _, _, h => by cases h
  | .int _ :: _, _, _, _, h => by cases h
  | .bl _ :: _, _, _, _, h => by cases h
  | .tup _ :: _, _, _, _, h => by cases h
  | .ref _ :: _, _, _, _, h => by cases h
  | .cl _ :: _, _, _, _, h => by cases h
  | .emp :: _, _, _, _, h => by cases h
def fLenSet (f : FL) : FE := fun env M => bindO (f env M) fun ds M1 => match textsOf ds with
  | some xs => if xs.length ≤ 1000 then some (.int (unlike xs), M1) else none
  | none => none
section
variable {S : Stat} {sc : Scope} {e a b c : Expr} {es : List Expr} {pos p : Pos}
theorem se_lenSet {f : FL} {p2 q : Pos} (hx : BGl S sc "len") (hy : BGl S sc "set") (h : SF S sc e f) (he : ∀ env, starEach (e :: []) env = (false, eval e env) :: starEach [] env := by intro _; rfl) :
    SE S sc (.Call (.Name "len" p) [.Call (.Name "set" p2) [e] [] q] [] pos) (fLenSet f) := by
  obtain ⟨te, pe, se⟩ := h
  refine ⟨tLenSetS S.K te, fun X O => by rw [← O.K]; exact pe_lenSetS (hx.at O).1 (hx.at O).2 (hy.at O).1 (hy.at O).2 O.calm (pe X O) (he _), fun σ env H ρ M d M' E R h Q q => ?_⟩
  obtain ⟨ds, M1, e1, h⟩ := bindO_some h
  split at h
  · rename_i xs ex
    split at h
    · rename_i hl
      cases h
      refine se σ env H ρ M _ _ E R e1 _ fun l vs H1 ρ1 st1 R1 hp hn hf hd => ?_
      obtain ⟨z1, z2⟩ := textsOf_v hd ex
      subst z1
      exact ⟨l, xs, rfl, .inl (.inl hp), hl, q _ H1 ρ1 st1 R1 (.int _)⟩
    · cases h
  · cases h

/-! ### a text so many times -/
def timesS (x : Str) (n : Nat) : Str := ⟨(List.replicate n x.cps).foldl (· ++ ·) #[]⟩
def rRepS : R2 := fun x y H Q => ∃ z k, x = .str z ∧ y = .int k ∧ 1 ≤ k ∧ k ≤ 1000 ∧ 0 < z.length ∧ z.length ≤ 100 ∧ (timesS z k.toNat).length ≤ 100000 ∧ Q (.str (timesS z k.toNat)) H
theorem op_repS {X : Cx} : OpR X (binaryOp .Mult) rRepS := by
  intro pins s σ H x y v u Q I rx ry h
  obtain ⟨z, k, rfl, rfl, h1, h2, h3, h4, h5, q⟩ := h
  obtain ⟨t, rfl⟩ := rx
  obtain ⟨t2, rfl⟩ := ry
  have hk : ¬ k < 1 := by omega
  have hlo : decide (k < -(2 ^ 63 : Int)) = false := decide_eq_false (by omega)
  have hhi : decide (k ≥ 2 ^ 63) = false := decide_eq_false (by omega)
  refine PySem.P.mul_str (by rw [hlo, hhi]; rfl) (fun _ _ => ?_) (fun _ _ => ?_) ?_
  · have hd : (1000 : Int) ≤ (2 ^ 63 - 1) / k := by
      rw [Int.le_ediv_iff_mul_le (by omega)]
      have : 1000 * k ≤ 1000 * 1000 := Int.mul_le_mul_of_nonneg_left h2 (by decide)
      omega
    omega
  · have hz : z.length * k.toNat ≤ 100 * 1000 := Nat.mul_le_mul h4 (by omega)
    show decide (z.length * k.toNat > sizeLine) = false
    refine decide_eq_false ?_
    have : (100 * 1000 : Nat) ≤ sizeLine := by decide
    omega
  · rw [if_neg hk]
    by_cases h1k : k = 1
    · subst h1k
      have e : timesS z (1 : Int).toNat = z := by
        show (⟨(List.replicate 1 z.cps).foldl (· ++ ·) #[]⟩ : Str) = z
        simp
      rw [e] at q
      exact (show EP X pins σ Q (.str z t) s from ⟨.str z, H, I, ⟨t, rfl⟩, q⟩)
    · have hne : (k == 1 || z.length == 0) = false := by
        have a1 : (k == 1) = false := beq_eq_false_iff_ne.mpr h1k
        have a2 : (z.length == 0) = false := beq_eq_false_iff_ne.mpr (by omega)
        rw [a1, a2]
        rfl
      rw [hne]
      exact ⟨Nat.le_trans h5 (by decide), ⟨.str _, H, I.tok _, ⟨_, rfl⟩, q⟩⟩
def gRepS : Mem → D → D → Option D := fun _ a b => match a, b with
  | .str z, .int k => if 1 ≤ k ∧ k ≤ 1000 ∧ 0 < z.length ∧ z.length ≤ 100 ∧ (timesS z k.toNat).length ≤ 100000 then some (.str (timesS z k.toNat)) else none
  | _, _ => none
theorem opd_repS : OpD S (binaryOp .Mult) gRepS := opd_val (fun sc X _ => op_repS) fun H ρ M x y a b d R ra rb e => by
  unfold gRepS at e
  split at e
  · split at e
    · rename_i h
      cases e
      cases ra
      cases rb
      exact ⟨_, .str _, fun Q q => ⟨_, _, rfl, rfl, h.1, h.2.1, h.2.2.1, h.2.2.2.1, h.2.2.2.2, q⟩⟩
    · cases e
  · cases e
end
end PV

-- PV13
namespace PV
open PySem PySem.Spec PyProof.Rows L2

/-! ### list(a text) -/
def signV (z : Str) : List V := z.cps.toList.map fun c => V.str ⟨#[c]⟩
theorem call_list_text {X : Cx} (hc : X.calm = true) : CallR X (.type "list") (fun xs H Q => ∃ z : Str, xs = [.str z] ∧ z.length ≤ 100000 ∧ ∀ l, H l = none → Q (.ref l) (upd H l (.lst (signV z)))) := by
  intro pins s σ H xs us Q I r h
  obtain ⟨z, rfl, hz, q⟩ := h
  obtain ⟨u, rfl, t, rfl⟩ := vals1 r
  have hs : z.cps.size ≤ sizeLine := Nat.le_trans (show z.cps.size ≤ 100000 from hz) (by decide)
  refine call_list_str (I.ok.hd hc) z t (hn := hs) fun h' tk acc c' kp hl hA => ?_
  have hok : ObjOk X.prog X.w (upd H s.heap.objs.size (.lst (signV z))) h' s.heap.objs.size (.lst (signV z)) := by
    refine ⟨by unfold signV; simp only [List.length_map, Array.length_toList]; exact hs, acc.toList, c', ?_, by rw [Array.toArray_toList]; exact hl⟩
    refine vals_of_at (by unfold signV; simp [hA.1]) fun j v w h1 h2 => ?_
    obtain ⟨c, u, hcu, rfl⟩ := hA.2 j w (by rw [← Array.getElem?_toList]; exact h2)
    unfold signV at h1
    rw [List.getElem?_map, Array.getElem?_toList, hcu] at h1
    cases h1
    exact ⟨u, rfl⟩
  exact ⟨.ref s.heap.objs.size, _, I.laid (t' := tk) kp (Nat.le_refl _) hok, rfl, q _ (I.hok.fresh (Nat.le_refl _))⟩
theorem dv_signs {K : PySem.W.Frag} {H : Hp} {ρ : List Addr} (z : Str) : DvAll K H ρ (signV z) (signs z) := by
  unfold signV signs
  induction z.cps.toList with
  | nil => exact .nil
  | cons c r ih => exact .cons (.str _) ih
section
variable {S : Stat} {sc : Scope} {e a b c : Expr} {es : List Expr} {pos p : Pos}
def fListS (f : FE) : FL := fun env M => bindO (f env M) fun d M1 => match d with
  | .str z => if z.length ≤ 100000 then some (signs z, M1) else none
  | _ => none
theorem sf_listStr {fe : FE} (hx : BGl S sc "list") (h : SE S sc e fe) (he : ∀ env, starEach (e :: []) env = (false, eval e env) :: starEach [] env := by intro _; rfl) : SF S sc (.Call (.Name "list" p) [e] [] pos) (fListS fe) := by
  obtain ⟨te, pe, se⟩ := h
  refine ⟨tCB (fun xs H Q => ∃ z : Str, xs = [.str z] ∧ z.length ≤ 100000 ∧ ∀ l, H l = none → Q (.ref l) (upd H l (.lst (signV z)))) (tCons te tNil),
    fun X O => pe_callTy (call_list_text O.calm) (hx.at O).1 (hx.at O).2 boot_list (pa_cons (pe X O) pa_nil (he _)) (by decide) (by decide) (he _) rfl, fun σ env H ρ M d M' E R h => ?_⟩
  obtain ⟨x, M1, e1, h⟩ := bindO_some h
  split at h
  · rename_i z
    split at h
    · rename_i hz
      cases h
      refine fun Q q => se σ env H ρ M _ _ E R e1 _ fun v H1 ρ1 st1 R1 r1 => ?_
      cases r1
      refine ⟨z, rfl, hz, fun l hl => ?_⟩
      obtain ⟨z1, z2, z3, z4, z5, z6⟩ := lay_free st1 R1 hl (dv_signs z)
      exact q l _ _ _ z1 z2 z3 z4 z5 z6
    · cases h
  · cases h

/-! ### {} -/
theorem se_emp : SE S sc (.Dict [] [] pos) (fC .emp) := by
  refine ⟨_, fun X O => pe_dnewK, fun σ env H ρ M d M' E R h => ?_⟩
  cases h
  intro Q q
  refine fun l hl => ?_
  exact q (.ref l) _ ρ (.laid hl) (R.laid hl) (.emp upd_same)

/-! ### a list held against a new list without items -/
theorem op_neNil {X : Cx} (hu : X.A.units < cLine) : OpR X (compareOp .NotEq) (rNil true) := by
  intro pins s σ H x y v u Q I rx ry h
  obtain ⟨l, m, xs, rfl, rfl, hl, hm, q⟩ := h
  cases rx
  cases ry
  obtain ⟨as, ra, ⟨oa, na, ea, ca, _, da⟩, _⟩ := I.list (.inl (.inl hl))
  obtain ⟨bs, rb, ⟨ob, nb, eb, cb, _, db⟩, _⟩ := I.list (.inl (.inl hm))
  have hb0 := vals_nil rb
  subst hb0
  have IA : s.heap.IsList l as.toArray := ⟨oa, ea, ca, na, da⟩
  have IB : s.heap.IsList m ([] : List Value).toArray := ⟨ob, eb, cb, nb, db⟩
  have hlen := ra.length
  cases as with
  | nil =>
    have z : xs = [] := List.length_eq_zero_iff.mp hlen
    subst z
    exact SeqAt.RcNeAt.lists (e := fun _ => true) IA IB rfl hu (fun j h1 _ => absurd h1 (Nat.not_lt_zero j)) X.prog X.w X.xe _ ⟨.bl false, H, I, rfl, q⟩
  | cons t ts =>
    cases xs with
    | nil => cases hlen
    | cons x0 xs0 => exact SeqAt.RcNeAt.lists_lengths IA IB rfl hu X.prog X.w X.xe _ ⟨.bl true, H, I, rfl, q⟩
def fEqN (neg : Bool) (f g : FL) : FE := fun env M => bindO (f env M) fun xs M1 => bindO (g env M1) fun ys M2 => if ys.isEmpty = true then some (.bl (if neg then !xs.isEmpty else xs.isEmpty), M2) else none
theorem sem_eqN {neg : Bool} {ta tb : TE} {f g : FL}
    (sa : ∀ σ env H ρ M d M', EnvR S.K H ρ σ env → RelM S.K H ρ M → f env M = some (d, M') → EvF S.K ta σ H ρ d M') (sb : ∀ σ env H ρ M d M', EnvR S.K H ρ σ env → RelM S.K H ρ M → g env M = some (d, M') → EvF S.K tb σ H ρ d M')
    (σ env H ρ M d M') (E : EnvR S.K H ρ σ env) (R : RelM S.K H ρ M) (h : fEqN neg f g env M = some (d, M')) : EvX S.K (tOp (rNil neg) ta tb) σ H ρ d M' := by
  obtain ⟨xs, M1, e1, h⟩ := bindO_some h
  obtain ⟨ys, M2, e2, h⟩ := bindO_some h
  split at h
  · rename_i hf
    cases h
    refine fun Q q => sa σ env H ρ M _ _ E R e1 _ fun l vs H1 ρ1 st1 R1 hp hn hfr hd => ?_
    refine sb σ env H1 ρ1 _ _ _ (E.mono st1 R) R1 e2 _ fun m us H2 ρ2 st2 R2 hp2 hn2 hfr2 hd2 => ?_
    have z : us = [] := by
      have hy : ys = [] := by simpa using hf
      subst hy
      cases hd2
      rfl
    subst z
    refine ⟨l, m, vs, rfl, rfl, st2.fr _ _ hp hn, hp2, ?_⟩
    have z : vs.isEmpty = xs.isEmpty := by
      cases hd <;> rfl
    rw [z]
    exact q _ H2 ρ2 (st1.trans st2) R2 (.bl _)
  · cases h
theorem unitsS {k : Nat} {A : Around} (h : Room k A) : A.units < cLine := by
  have := h.un
  omega
theorem se_eqN {f g : FL} (ha : SF S sc a f) (hb : SF S sc b g) (hm : behindInMarks .Eq b = false := by rfl) : SE S sc (.Compare a [.Eq] [b] pos) (fEqN false f g) := by
  obtain ⟨ta, pa, sa⟩ := ha
  obtain ⟨tb, pb, sb⟩ := hb
  exact ⟨tOp (rNil false) ta tb, fun X O => pe_cmpR (op_eqNil (unitsS O.room)) (pa X O) (pb X O) hm, sem_eqN sa sb⟩
theorem st_neN {f g : FL} (ha : SF S sc a f) (hb : SF S sc b g) (hm : behindInMarks .NotEq b = false := by rfl) : ST S sc (.Compare a [.NotEq] [b] pos) (fTest (fEqN true f g)) := by
  obtain ⟨ta, pa, sa⟩ := ha
  obtain ⟨tb, pb, sb⟩ := hb
  exact st_of (fun X O => pt_cmpR (op_neNil (unitsS O.room)) (pa X O) (pb X O) hm) (sem_eqN sa sb)
/-- a list that is noted, or that never changes, held against one without items -/
def gOnlyL : Mem → D → Option (List D) := fun M d => match d with
  | .cl xs => some xs
  | .ref n => match M[n]? with
    | some (.lst xs) => some xs
    | none => none
  | _ => none
theorem dv_onlyL {K : PySem.W.Frag} {H : Hp} {ρ : List Addr} {M : Mem} {v : V} {d : D} {xs : List D} (R : RelM K H ρ M) (r : Dv K H ρ v d) (h : gOnlyL M d = some xs) :
    ∃ x vs, v = .ref x ∧ SqL K H x vs ∧ DvAll K H ρ vs xs := by
  unfold gOnlyL at h
  split at h
  · cases h
    cases r with
    | cl s1 d1 => exact ⟨_, _, rfl, s1.sq, d1⟩
  · cases r with
    | ref hn =>
      split at h
      · rename_i xs hM
        cases h
        obtain ⟨vs, hv, hd⟩ := R.lst hn hM
        exact ⟨_, vs, rfl, .inl (.inl hv), hd⟩
      · cases h
  · cases h
def fEqR (f : FE) (g : FL) : FE := fun env M => bindO (f env M) fun x M1 => bindO (g env M1) fun ys M2 => match gOnlyL M2 x with
  | some xs => if ys.isEmpty = true then some (.bl xs.isEmpty, M2) else none
  | none => none
def rNilC (K : PySem.W.Frag) : R2 := fun x y H Q => ∃ l m xs, x = .ref l ∧ y = .ref m ∧ SqL K H l xs ∧ H m = some (.lst []) ∧ Q (.bl xs.isEmpty) H
theorem op_eqNilC {X : Cx} (hu : X.A.units < cLine) : OpR X (compareOp .Eq) (rNilC X.K) := by
  intro pins s σ H x y v u Q I rx ry h
  obtain ⟨l, m, xs, rfl, rfl, hl, hm, q⟩ := h
  cases rx
  cases ry
  obtain ⟨as, ra, ⟨oa, na, ea, ca, _, da⟩, _⟩ := I.list hl
  obtain ⟨bs, rb, ⟨ob, nb, eb, cb, _, db⟩, _⟩ := I.list (.inl (.inl hm))
  have hb0 := vals_nil rb
  subst hb0
  have IA : s.heap.IsList l as.toArray := ⟨oa, ea, ca, na, da⟩
  have IB : s.heap.IsList m ([] : List Value).toArray := ⟨ob, eb, cb, nb, db⟩
  have hlen := ra.length
  cases as with
  | nil =>
    have z : xs = [] := List.length_eq_zero_iff.mp hlen
    subst z
    exact SeqAt.eq_listAt (e := fun _ => true) IA IB rfl hu (fun j h1 _ => absurd h1 (Nat.not_lt_zero j)) ⟨.bl true, H, I, rfl, q⟩
  | cons t ts =>
    cases xs with
    | nil => cases hlen
    | cons x0 xs0 => exact SeqAt.eq_list_lengthsAt IA IB rfl hu ⟨.bl false, H, I, rfl, q⟩
theorem se_eqR {f : FE} {g : FL} (ha : SE S sc a f) (hb : SF S sc b g) (hm : behindInMarks .Eq b = false := by rfl) : SE S sc (.Compare a [.Eq] [b] pos) (fEqR f g) := by
  obtain ⟨ta, pa, sa⟩ := ha
  obtain ⟨tb, pb, sb⟩ := hb
  refine ⟨tOp (rNilC S.K) ta tb, fun X O => pe_cmpR (by rw [← O.K]; exact op_eqNilC (unitsS O.room)) (pa X O) (pb X O) hm, fun σ env H ρ M d M' E R h => ?_⟩
  obtain ⟨x, M1, e1, h⟩ := bindO_some h
  obtain ⟨ys, M2, e2, h⟩ := bindO_some h
  split at h
  · rename_i xs hi
    split at h
    · rename_i hf
      cases h
      refine fun Q q => sa σ env H ρ M _ _ E R e1 _ fun v H1 ρ1 st1 R1 r1 => ?_
      refine sb σ env H1 ρ1 _ _ _ (E.mono st1 R) R1 e2 _ fun m us H2 ρ2 st2 R2 hp2 hn2 hfr2 hd2 => ?_
      have z : us = [] := by
        have hy : ys = [] := by simpa using hf
        subst hy
        cases hd2
        rfl
      subst z
      obtain ⟨l, vs, rfl, hs, hd⟩ := dv_onlyL R2 (r1.mono st2 R1) hi
      refine ⟨l, m, vs, rfl, rfl, hs, hp2, ?_⟩
      have z : vs.isEmpty = xs.isEmpty := by
        cases hd <;> rfl
      rw [z]
      exact q _ H2 ρ2 (st1.trans st2) R2 (.bl _)
    · cases h
  · cases h
end
end PV

-- PV14
/-! the text of data -/
namespace PV
open PySem PySem.Spec PyProof.Rows L2

def toQ (M : Mem) : Nat → D → Option PyData
  | _, .non => some .none
  | _, .bl b => some (.bool b)
  | _, .int i => some (.int i)
  | _, .str x => some (.str x)
  | _, .emp => some (.dict [])
  | n + 1, .tup xs => match toPL (toQ M n) xs with
    | some ps => some (.tuple ps)
    | none => none
  | n + 1, .cl xs => match toPL (toQ M n) xs with
    | some ps => some (.list ps)
    | none => none
  | n + 1, .ref k => match M[k]? with
    | some (.lst xs) => match toPL (toQ M n) xs with
      | some ps => some (.list ps)
      | none => none
    | none => none
  | 0, .tup _ => none
  | 0, .ref _ => none
  | 0, .cl _ => none
/-- the dict of modules is none of the dicts there -/
def NoSys (h : Heap) (as : List Addr) : Prop := ∀ a ∈ as, ∀ o, h.get? a = some o → o.cls = .type "dict" → a ≠ sysModules
theorem NoSys.nil {h : Heap} : NoSys h [] := fun _ m => (List.not_mem_nil m).elim
theorem NoSys.left {h : Heap} {as bs : List Addr} (x : NoSys h (as ++ bs)) : NoSys h as := fun a m => x a (List.mem_append_left _ m)
theorem NoSys.right {h : Heap} {as bs : List Addr} (x : NoSys h (as ++ bs)) : NoSys h bs := fun a m => x a (List.mem_append_right _ m)
theorem NoSys.tl {h : Heap} {a : Addr} {as : List Addr} (x : NoSys h (a :: as)) : NoSys h as := fun b m => x b (List.mem_cons_of_mem _ m)
mutual
def flatQ : PyData → Bool
  | .dict kvs => kvs.isEmpty
  | .list xs => flatQs xs
  | .tuple xs => flatQs xs
  | .none => true
  | .bool _ => true
  | .int _ => true
  | .str _ => true
def flatQs : List PyData → Bool
  | [] => true
  | x :: r => flatQ x && flatQs r
end

/-! from the tracked heap to the machine's -/
section
variable {X : Cx} {pins : List (Addr × Obj)} {σ : L2.St} {H : Hp} {s : Shared} {ρ : List Addr} {M : Mem}
theorem readsAll_of {f : D → Option PyData} (hf : ∀ v d p u, Dv X.K H ρ v d → f d = some p → RelV v u → ∃ as, Reads s.heap u p as ∧ NoSys s.heap as ∧ flatQ p = true) :
    ∀ {vs : List V} {ds : List D} {ps : List PyData} {us : List Value}, DvAll X.K H ρ vs ds → toPL f ds = some ps → Vals vs us → ∃ as, ReadsAll s.heap us ps as ∧ NoSys s.heap as ∧ flatQs ps = true
  | _, _, _, _, .nil, h, r => by
    cases h
    cases r
    exact ⟨[], .nil, .nil, rfl⟩
  | _, _, _, _, .cons q t, h, r => by
    cases r with
    | cons r1 r2 =>
      unfold toPL at h
      split at h
      · rename_i p e1
        split at h
        · rename_i ps e2
          cases h
          obtain ⟨as, h1, n1, f1⟩ := hf _ _ _ _ q e1 r1
          obtain ⟨bs, h2, n2, f2⟩ := readsAll_of hf t e2 r2
          exact ⟨as ++ bs, .cons h1 h2, fun a m => (List.mem_append.mp m).elim (n1 a) (n2 a), by simp only [flatQs, f1, f2, Bool.and_self]⟩
        · cases h
      · cases h
theorem reads_of (I : L2.Inv X pins σ H s) (R : RelM X.K H ρ M) : ∀ (n : Nat) (v : V) (d : D) (p : PyData) (u : Value), Dv X.K H ρ v d → toQ M n d = some p → RelV v u → ∃ as, Reads s.heap u p as ∧ NoSys s.heap as ∧ flatQ p = true
  | n, _, _, _, _, .non, h, r => by
    cases n <;> (cases h; cases r; exact ⟨[], .none, .nil, rfl⟩)
  | n, _, _, _, _, .bl b, h, r => by
    cases n <;> (cases h; cases r; exact ⟨[], .bool b, .nil, rfl⟩)
  | n, _, _, _, _, .int i, h, r => by
    cases n <;> (cases h; obtain ⟨t, rfl⟩ := r; exact ⟨[], .int i t, .nil, rfl⟩)
  | n, _, _, _, _, .str x, h, r => by
    cases n <;> (cases h; obtain ⟨t, rfl⟩ := r; exact ⟨[], .str x t, .nil, rfl⟩)
  | n, _, _, p, _, .emp (a := a) e, h, r => by
    have h' : some (PyData.dict []) = some p := by cases n <;> exact h
    cases h'
    cases r
    obtain ⟨_, hs, vs, kv, o, es, ep, ho, ⟨hc, _, _⟩, hd, _, hp, _⟩ := dk_of I.hok e
    cases kv
    have z : es.toList = [] := by
      generalize es.toList = l at hp
      cases hp
      rfl
    refine ⟨_, .dict ho hc hd (kvs := []) (as := []) (bs := []) (by rw [z]; exact .nil) (by rw [z]; exact .nil), fun b hb o' ho' _ => ?_, rfl⟩
    simp at hb
    subst hb
    simpa using hs
  | 0, _, _, _, _, .tup _ _, h, _ => by cases h
  | 0, _, _, _, _, .ref _, h, _ => by cases h
  | 0, _, _, _, _, .cl _ _, h, _ => by cases h
  | n + 1, _, _, _, _, .tup h1 h2, h, r => by
    unfold toQ at h
    split at h
    · rename_i ps e1
      cases h
      cases r
      obtain ⟨its, rv, ⟨o, ho, hc, m, hd⟩, _⟩ := I.tuple h1
      obtain ⟨as, q1, q2, q3⟩ := readsAll_of (s := s) (reads_of I R n) h2 e1 rv
      exact ⟨_, .tuple ho hc hd q1, q2, q3⟩
    · cases h
  | n + 1, _, _, _, _, .cl h1 h2, h, r => by
    unfold toQ at h
    split at h
    · rename_i ps e1
      cases h
      cases r
      obtain ⟨its, rv, ⟨o, m, ho, hc, _, hd⟩, _⟩ := I.list h1.sq
      obtain ⟨as, q1, q2, q3⟩ := readsAll_of (s := s) (reads_of I R n) h2 e1 rv
      refine ⟨_, .list ho hc hd q1, fun b hb o' ho' hc' => ?_, q3⟩
      rcases List.mem_cons.mp hb with rfl | hb
      · rw [ho] at ho'
        cases ho'
        exact absurd (hc.symm.trans hc') (by decide)
      · exact q2 b hb o' ho' hc'
    · cases h
  | n + 1, _, _, _, _, .ref h1, h, r => by
    unfold toQ at h
    split at h
    · rename_i xs e0
      split at h
      · rename_i ps e1
        cases h
        cases r
        obtain ⟨vs, hv, h2⟩ := R.lst h1 e0
        obtain ⟨its, rv, ⟨o, m, ho, hc, _, hd⟩, _⟩ := I.list (.inl (.inl hv))
        obtain ⟨as, q1, q2, q3⟩ := readsAll_of (s := s) (reads_of I R n) h2 e1 rv
        refine ⟨_, .list ho hc hd q1, fun b hb o' ho' hc' => ?_, q3⟩
        rcases List.mem_cons.mp hb with rfl | hb
        · rw [ho] at ho'
          cases ho'
          exact absurd (hc.symm.trans hc') (by decide)
        · exact q2 b hb o' ho' hc'
      · cases h
    · cases h
end
end PV

-- PV15
namespace PV
open PySem PySem.Spec PyProof.Rows L2

section
variable {P : Program} {w : World} {h : Heap}
/-- what is shown beneath -/
def Sub (P : Program) (w : World) (h : Heap) (n : Nat) (us : List Value) (ts : List Str) : Prop := ∃ bs, ReadAtMost h n bs ∧ ReprAllK P w bs h n us ts
def One (P : Program) (w : World) (h : Heap) (n : Nat) (u : Value) (t : Str) : Prop := ∃ bs, ReadAtMost h n bs ∧ ReprK P w bs h n u t
theorem One.flat {n : Nat} {u : Value} {t : Str} (x : ReprIs P w u t) : One P w h n u t := ⟨[], fun _ m => (List.not_mem_nil m).elim, .of_is x _ _ _⟩
theorem One.up {n m : Nat} {u : Value} {t : Str} (x : One P w h n u t) (le : n ≤ m) : One P w h m u t :=
  let ⟨bs, q, k⟩ := x
  ⟨bs, q.mono le, k.level_le le⟩
theorem Sub.cons {n : Nat} {u : Value} {us : List Value} {t : Str} {ts : List Str} (x : One P w h n u t) (y : Sub P w h n us ts) : Sub P w h n (u :: us) (t :: ts) :=
  let ⟨bs, q, k⟩ := x
  let ⟨cs, q', k'⟩ := y
  ⟨bs ++ cs, q.append q', .cons (k.more fun _ m => List.mem_append_left _ m) (k'.more_le (fun _ m => List.mem_append_right _ m) (Nat.le_refl _))⟩
theorem Sub.up {n m : Nat} {us : List Value} {ts : List Str} (x : Sub P w h n us ts) (le : n ≤ m) : Sub P w h m us ts :=
  let ⟨bs, q, k⟩ := x
  ⟨bs, q.mono le, k.more_le (fun _ z => z) le⟩
/-- a list in the heap, what is in it shown -/
structure LShow (P : Program) (w : World) (h : Heap) (a : Addr) (n : Nat) (ts : List Str) : Prop where
  ex : ∃ (o : Obj) (us : List Value) (c : Nat) (bs : List Addr), h.get? a = some o ∧ o.cls = .type "list" ∧ o.data = .seq us.toArray c ∧ a ∉ bs ∧ ReprAllK P w bs h n us ts
structure TShow (P : Program) (w : World) (h : Heap) (a : Addr) (n : Nat) (ts : List Str) : Prop where
  ex : ∃ (o : Obj) (its : Array Value) (c : Nat) (bs : List Addr), h.get? a = some o ∧ o.cls = .type "tuple" ∧ o.data = .seq its c ∧ a ∉ bs ∧ ReprAllK P w bs h n its.toList ts
theorem listK {a : Addr} {n : Nat} {o : Obj} {us : List Value} {c : Nat} {bs : List Addr} {ts : List Str} (h1 : h.get? a = some o) (h2 : o.cls = .type "list") (h3 : o.data = .seq us.toArray c) (hn : a ∉ bs) (k : ReprAllK P w bs h n us ts) :
    ReprK P w (a :: bs) h (n + 1) (.ref a) (listText ts) := by
  cases us with
  | nil =>
    cases k
    rw [listText_nil]
    exact .listEmpty h1 h2 h3
  | cons u us => exact .list h1 h2 h3 hn (by simpa using k.length_eq) fun i y e => k.item i y (by simpa using e)
mutual
theorem rk_one : ∀ {u : Value} {p : PyData} {as : List Addr}, Reads h u p as → p.showable = true → flatQ p = true → NoSys h as → p.shown.length ≤ sizeLine → One P w h p.depth u p.shown
  | _, _, _, .none, _, _, _, _ => by rw [PyData.shown]; exact .flat .none
  | _, _, _, .bool b, _, _, _, _ => by rw [PyData.shown]; exact .flat (.bool b)
  | _, _, _, .int i t, hs, _, _, _ => by rw [PyData.shown]; exact .flat (.int t (by rw [PyData.showable] at hs; exact of_decide_eq_true hs))
  | _, _, _, .str x t, _, _, _, hz => by rw [PyData.shown] at hz ⊢; exact .flat (.str x t hz)
  | _, _, _, .list (a := a) (xs := xs) h1 h2 h3 h4, hs, hf, hn, hz => by
    rw [PyData.shown] at hz ⊢
    rw [PyData.showable] at hs
    rw [flatQ] at hf
    have r := Reads.list h1 h2 h3 h4
    obtain ⟨bs, q, k⟩ := rk_all h4 hs hf hn.tl fun t m => Nat.le_trans (listText_mem_le m) hz
    have hd : (PyData.list xs).depth = PyData.depthAll xs + 1 := by rw [PyData.depth]
    have na : a ∉ bs := not_mem_of_deeper r (by omega) q
    refine ⟨a :: bs, ReadAtMost.cons r (by omega) q, ?_⟩
    rw [hd]
    exact listK h1 h2 (by rw [h3]) na k
  | _, _, _, .tuple (a := a) (xs := xs) h1 h2 h3 h4, hs, hf, hn, hz => by
    rw [PyData.shown] at hz ⊢
    rw [PyData.showable] at hs
    rw [flatQ] at hf
    have r := Reads.tuple h1 h2 h3 h4
    obtain ⟨bs, q, k⟩ := rk_all h4 hs hf hn fun t m => Nat.le_trans (tupleText_mem_le m) hz
    have hd : (PyData.tuple xs).depth = PyData.depthAll xs + 1 := by rw [PyData.depth]
    have na : a ∉ bs := not_mem_of_deeper r (by omega) q
    refine ⟨a :: bs, ReadAtMost.cons r (by omega) q, ?_⟩
    rw [hd]
    exact .tuple h1 h2 h3 na k
  | _, _, _, .dict (a := a) (kvs := kvs) (es := es) h1 h2 h3 h4 h5, _, hf, hn, hz => by
    rw [flatQ] at hf
    have z : kvs = [] := by simpa using hf
    subst z
    have hne := hn a (List.mem_append_left _ List.mem_cons_self) _ h1 h2
    have hE : es.toList = [] := by
      generalize es.toList = l at h4
      cases l with
      | nil => rfl
      | cons e l => cases h4
    refine ⟨[a], fun b m => ?_, ?_⟩
    · have : b = a := by simpa using m
      subst this
      exact ⟨_, _, .dict h1 h2 h3 h4 h5, Nat.le_refl _⟩
    · have hd : (PyData.dict []).depth = 1 := by simp [PyData.depth, PyData.depthKv]
      rw [hd, PyData.shown, PyData.shownKv]
      exact ReprK.dict (as := []) (d := 0) h1 h2 h3 (beq_eq_false_iff_ne.mpr hne) (List.not_mem_nil) (by rw [hE]; exact .nil)
theorem rk_all : ∀ {us : List Value} {ps : List PyData} {as : List Addr}, ReadsAll h us ps as → PyData.showableAll ps = true → flatQs ps = true → NoSys h as → (∀ t ∈ PyData.shownAll ps, t.length ≤ sizeLine) → Sub P w h (PyData.depthAll ps) us (PyData.shownAll ps)
  | _, _, _, .nil, _, _, _, _ => ⟨[], fun _ m => (List.not_mem_nil m).elim, by rw [PyData.shownAll]; exact .nil⟩
  | _, _, _, .cons r rs, hs, hf, hn, hz => by
    rw [PyData.showableAll, Bool.and_eq_true] at hs
    rw [flatQs, Bool.and_eq_true] at hf
    rw [PyData.shownAll] at hz ⊢
    rw [PyData.depthAll]
    exact .cons ((rk_one r hs.1 hf.1 hn.left (hz _ List.mem_cons_self)).up (Nat.le_max_left _ _)) ((rk_all rs hs.2 hf.2 hn.right fun t m => hz t (List.mem_cons_of_mem _ m)).up (Nat.le_max_right _ _))
end
variable {A : Around} {E : Value → Shared → Prop} {s : Shared} {Q : Value → Shared → Prop}
theorem repr_ref {T id : String} {u : Value} (hT : s.TypeIs u T) (sl : SlotG T "__repr__" id) (hu : A.units + 1 < cLine)
    (hc : wpAny (model P w) A.in1 (call (.builtin id) [u]) (fun r s1 => ∃ x tk, r = .str x tk ∧ Q r s1) E s) : wpAny (model P w) A (call (.builtin "repr") [u]) Q E s := call_repr_slot hu hT sl hc
/-- repr(u) -/
theorem repr_call {u : Value} {p : PyData} {as : List Addr} (r : Reads s.heap u p as) (hs : p.showable = true) (hf : flatQ p = true) (hn : NoSys s.heap as) (hz : p.shown.length ≤ sizeLine) (hg : A.guards = some []) (hu : A.units + (p.depth + 1) < cLine)
    (hQ : ∀ h' tk t, (∀ b o, s.heap.get? b = some o → h'.get? b = some o) → Q (.str p.shown t) { s with heap := h', toks := tk }) : wpAny (model P w) A (call (.builtin "repr") [u]) Q E s := by
  have u1 : A.units + 1 < cLine := by omega
  have gg : A.in1.guards = some [] := hg
  cases r with
  | none => rw [PyData.shown] at hQ; exact PySem.P.repr_of_none (hQ s.heap _ _ fun _ _ e => e)
  | bool b => rw [PyData.shown] at hQ; exact PySem.P.repr_of_bool (hQ s.heap _ _ fun _ _ e => e)
  | int i t =>
    rw [PyData.showable] at hs
    rw [PyData.shown] at hQ
    exact PySem.P.repr_of_int (of_decide_eq_true hs) (hQ s.heap _ _ fun _ _ e => e)
  | str x t =>
    rw [PyData.shown] at hQ hz
    exact PySem.P.repr_of_str (hQ s.heap _ _ fun _ _ e => e) hz
  | list h1 h2 h3 h4 =>
    rename_i a o us c xs bs0
    rw [PyData.shown] at hQ hz
    rw [PyData.showable] at hs
    rw [flatQ] at hf
    have hd : (PyData.list xs).depth = PyData.depthAll xs + 1 := by rw [PyData.depth]
    obtain ⟨bs, q, k⟩ := rk_all (P := P) (w := w) h4 hs hf hn.tl fun t m => Nat.le_trans (listText_mem_le m) hz
    have na : a ∉ bs := not_mem_of_deeper (Reads.list h1 h2 h3 h4) (by omega) q
    refine repr_ref ⟨o, h1, h2⟩ F.slot_list_repr.toG u1 ?_
    obtain ⟨l⟩ := us
    cases l with
    | nil =>
      have h4' : ReadsAll s.heap [] xs _ := h4
      cases h4'
      rw [PyData.shownAll, listText_nil] at hQ
      exact call_list_repr_empty ⟨o, h1, h2⟩ h1 h3 ⟨_, _, rfl, hQ s.heap _ _ fun _ _ e => e⟩
    | cons v l =>
      exact call_list_reprK h1 h2 h3 na (by simpa using k.length_eq) (fun i y e => k.item i y (by simpa using e)) gg (fun b _ => .nil b) (show A.units + 1 + (PyData.depthAll xs + 1) < cLine by omega) (fun _ _ e => e) (fun h' t tk kp => ⟨_, _, rfl, hQ h' tk t kp⟩) hz
  | tuple h1 h2 h3 h4 =>
    rename_i a o us c xs
    rw [PyData.shown] at hQ hz
    rw [PyData.showable] at hs
    rw [flatQ] at hf
    have hd : (PyData.tuple xs).depth = PyData.depthAll xs + 1 := by rw [PyData.depth]
    obtain ⟨bs, q, k⟩ := rk_all (P := P) (w := w) h4 hs hf hn fun t m => Nat.le_trans (tupleText_mem_le m) hz
    have na : a ∉ bs := not_mem_of_deeper (Reads.tuple h1 h2 h3 h4) (by omega) q
    exact repr_ref ⟨o, h1, h2⟩ F.slot_tuple_repr u1 (call_tuple_reprK h1 h2 h3 na k gg (fun b _ => .nil b) (show A.units + 1 + (PyData.depthAll xs + 1) < cLine by omega) (fun _ _ e => e) (fun h' t tk kp => ⟨_, _, rfl, hQ h' tk t kp⟩) hz)
  | dict h1 h2 h3 h4 h5 =>
    rename_i a o es c kvs as1 bs1
    rw [flatQ] at hf
    have z : kvs = [] := by simpa using hf
    subst z
    rw [PyData.shown, PyData.shownKv] at hQ hz
    have hne := hn a (List.mem_append_left _ List.mem_cons_self) _ h1 h2
    have hE : es.toList = [] := by
      generalize es.toList = l at h4
      cases l with
      | nil => rfl
      | cons e l => cases h4
    have hd : (PyData.dict []).depth = 1 := by simp [PyData.depth, PyData.depthKv]
    exact repr_ref ⟨o, h1, h2⟩ F.slot_dict_repr u1 (call_dict_reprK (as := []) (d := 0) h1 h2 h3 (beq_eq_false_iff_ne.mpr hne) (List.not_mem_nil) (by rw [hE]; exact .nil) gg (fun b _ => .nil b) (show A.units + 1 + 1 < cLine by omega) (fun _ _ e => e) (fun h' t tk kp => ⟨_, _, rfl, hQ h' tk t kp⟩) hz)
end

/-! ### the rule -/
section
variable {S : Stat} {sc : Scope} {e a b c : Expr} {es : List Expr} {pos p : Pos}
def fRepr (f : FE) : FE := fun env M => bindO (f env M) fun d M1 => match toQ M1 60 d with
  | some q => if q.showable = true ∧ q.depth ≤ 60 ∧ q.shown.length ≤ sizeLine then some (.str q.shown, M1) else none
  | none => none
def rRepr (K : PySem.W.Frag) : List V → Hp → VK → Prop := fun xs H Q => ∃ v ρ M d q, xs = [v] ∧ RelM K H ρ M ∧ Dv K H ρ v d ∧ toQ M 60 d = some q ∧ q.showable = true ∧ q.depth ≤ 60 ∧ q.shown.length ≤ sizeLine ∧ Q (.str q.shown) H
theorem call_reprD {X : Cx} (hg : X.A.guards = some []) (hu : X.A.units + 100 < cLine) : CallR X (.builtin "repr") (rRepr X.K) := by
  intro pins s σ H xs us Q I r h
  obtain ⟨v, ρ, M, d, q, rfl, R, rd, e, h1, h2, h3, k⟩ := h
  obtain ⟨u, rfl, rx⟩ := vals1 r
  obtain ⟨as, r1, r2, r3⟩ := reads_of I R 60 v d q u rd e rx
  exact repr_call r1 h1 r3 r2 h3 hg (by omega) fun h' tk t kp => ⟨.str q.shown, H, (I.kept (t' := tk) kp), ⟨t, rfl⟩, k⟩
theorem units100 {k : Nat} {A : Around} (h : Room k A) : A.units + 100 < cLine := by
  have := h.un
  omega
theorem boot_repr : bootBuiltins "repr" = some (.builtin "repr") := by decide +kernel
theorem se_repr {f : FE} (hx : BGl S sc "repr") (h : SE S sc e f) (he : ∀ env, starEach (e :: []) env = (false, eval e env) :: starEach [] env := by intro _; rfl) : SE S sc (.Call (.Name "repr" p) [e] [] pos) (fRepr f) := by
  obtain ⟨te, pe, se⟩ := h
  refine ⟨tCB (rRepr S.K) (tCons te tNil), fun X O => pe_callB (by rw [← O.K]; exact call_reprD O.gd (units100 O.room)) (hx.at O).1 (hx.at O).2 boot_repr (pa_cons (pe X O) pa_nil (he _)) (by decide) (by decide) (he _) rfl, fun σ env H ρ M d M' E R h => ?_⟩
  obtain ⟨x, M1, e1, h⟩ := bindO_some h
  split at h
  · rename_i q e2
    split at h
    · rename_i hq
      cases h
      refine fun Q k => se σ env H ρ M _ _ E R e1 _ fun v H1 ρ1 st1 R1 r1 => ?_
      exact ⟨v, ρ1, _, x, q, rfl, R1, r1, e2, hq.1, hq.2.1, hq.2.2, k _ H1 ρ1 st1 R1 (.str _)⟩
    · cases h
  · cases h
end
end PV

-- PV16
namespace PV
open PySem PySem.Spec PyProof.Rows L2
section
variable {S : Stat} {sc : Scope} {e a b c : Expr} {es : List Expr} {pos p : Pos} {g g' : Mem → D → D → Option D}
/-! ### a <= b <= c -/
def fChain (g g' : Mem → D → D → Option D) (fa fb fc : FE) : FE := fun env M => bindO (fa env M) fun x M1 => bindO (fb env M1) fun y M2 => match g M2 x y with
  | some (.bl true) => bindO (fc env M2) fun z M3 => pairO (g' M3 y z) M3
  | some (.bl false) => some (.bl false, M2)
  | _ => none
theorem sem_chain {r r' : R2} (s : ∀ H ρ M x y a b d, RelM S.K H ρ M → Dv S.K H ρ x a → Dv S.K H ρ y b → g M a b = some d → ∀ Q : VK, (∀ v H', Stp H H' ρ ρ → RelM S.K H' ρ M → Dv S.K H' ρ v d → Q v H') → r x y H Q)
    (s' : ∀ H ρ M x y a b d, RelM S.K H ρ M → Dv S.K H ρ x a → Dv S.K H ρ y b → g' M a b = some d → ∀ Q : VK, (∀ v H', Stp H H' ρ ρ → RelM S.K H' ρ M → Dv S.K H' ρ v d → Q v H') → r' x y H Q)
    {ta tb tc : TE} {fa fb fc : FE} (sa : ∀ σ env H ρ M d M', EnvR S.K H ρ σ env → RelM S.K H ρ M → fa env M = some (d, M') → EvX S.K ta σ H ρ d M') (sb : ∀ σ env H ρ M d M', EnvR S.K H ρ σ env → RelM S.K H ρ M → fb env M = some (d, M') → EvX S.K tb σ H ρ d M')
    (sc' : ∀ σ env H ρ M d M', EnvR S.K H ρ σ env → RelM S.K H ρ M → fc env M = some (d, M') → EvX S.K tc σ H ρ d M')
    (σ env H ρ M d M') (E : EnvR S.K H ρ σ env) (R : RelM S.K H ρ M) (h : fChain g g' fa fb fc env M = some (d, M')) : EvX S.K (tChain r r' ta tb tc) σ H ρ d M' := by
  obtain ⟨x, M1, e1, h⟩ := bindO_some h
  obtain ⟨y, M2, e2, h⟩ := bindO_some h
  refine fun Q q => sa σ env H ρ M _ _ E R e1 _ fun v H1 ρ1 st1 R1 r1 => ?_
  refine sb σ env H1 ρ1 _ _ _ (E.mono st1 R) R1 e2 _ fun u H2 ρ2 st2 R2 r2 => ?_
  split at h
  · rename_i e3
    obtain ⟨z, M3, e4, h⟩ := bindO_some h
    obtain ⟨e5, rfl⟩ := pairO_some h
    refine s H2 ρ2 _ v u x y _ R2 (r1.mono st2 R1) r2 e3 _ fun w H3 st3 R3 r3 => ?_
    cases r3
    refine ⟨true, rfl, ?_⟩
    rw [if_pos rfl]
    refine sc' σ env H3 ρ2 _ _ _ (((E.mono st1 R).mono st2 R1).mono st3 R2) R3 e4 _ fun w H4 ρ4 st4 R4 r4 => ?_
    refine s' H4 ρ4 _ u w y z d R4 ((r2.mono st3 R2).mono st4 R3) r4 e5 Q fun o H5 st5 R5 r5 => ?_
    exact q o H5 ρ4 ((((st1.trans st2).trans st3).trans st4).trans st5) R5 r5
  · rename_i e3
    cases h
    refine s H2 ρ2 _ v u x y _ R2 (r1.mono st2 R1) r2 e3 _ fun w H3 st3 R3 r3 => ?_
    cases r3
    refine ⟨false, rfl, ?_⟩
    rw [if_neg Bool.false_ne_true]
    exact q _ H3 ρ2 ((st1.trans st2).trans st3) R3 (.bl false)
  · cases h
theorem se_chain {o o' : CmpOp} {fa fb fc : FE} (ho : OpD S (compareOp o) g) (ho' : OpD S (compareOp o') g') (ha : SE S sc a fa) (hb : SE S sc b fb) (hc : SE S sc c fc) (hm : lastMarks [o, o'] [b, c] = false := by rfl) :
    SE S sc (.Compare a [o, o'] [b, c] pos) (fChain g g' fa fb fc) := by
  obtain ⟨r, p, s⟩ := ho
  obtain ⟨r', p', s'⟩ := ho'
  obtain ⟨ta, pa, sa⟩ := ha
  obtain ⟨tb, pb, sb⟩ := hb
  obtain ⟨tc, pc, sc'⟩ := hc
  exact ⟨tChain r r' ta tb tc, fun X O => pe_chain (p sc X O) (p' sc X O) (pa X O) (pb X O) (pc X O) hm, sem_chain s s' sa sb sc'⟩
theorem st_chain {o o' : CmpOp} {fa fb fc : FE} (ho : OpD S (compareOp o) g) (ho' : OpD S (compareOp o') g') (ha : SE S sc a fa) (hb : SE S sc b fb) (hc : SE S sc c fc) (hm : lastMarks [o, o'] [b, c] = false := by rfl) :
    ST S sc (.Compare a [o, o'] [b, c] pos) (fTest (fChain g g' fa fb fc)) := by
  obtain ⟨r, p, s⟩ := ho
  obtain ⟨r', p', s'⟩ := ho'
  obtain ⟨ta, pa, sa⟩ := ha
  obtain ⟨tb, pb, sb⟩ := hb
  obtain ⟨tc, pc, sc'⟩ := hc
  exact st_of (fun X O => pt_chain (p sc X O) (p' sc X O) (pa X O) (pb X O) (pc X O) hm) (sem_chain s s' sa sb sc')

/-! ### x in a tuple or list of flat things -/
def gInS (neg : Bool) : Mem → D → D → Option D := fun M a b => match gItems M b with
  | some xs => if flatD a = true ∧ flatL xs = true then some (.bl (if neg then !dIn a xs else dIn a xs)) else none
  | none => none
theorem opd_inS_of {f : Value → Value → Sem Value} {neg : Bool} (h : ∀ X : Cx, OpR X f (rIn X.K neg)) : OpD S f (gInS neg) := opd_val (r := rIn S.K neg) (fun sc X O => by rw [← O.K]; exact h X) fun H ρ M x y a b d R ra rb e => by
  unfold gInS at e
  split at e
  · rename_i xs hx
    split at e
    · rename_i hf
      cases e
      obtain ⟨l, vs, rfl, hs, hd⟩ := dv_items R rb hx
      have z1 := dv_flat_eq hf.1 ra
      have z2 := dvs_flat hd hf.2
      subst z1
      subst z2
      refine ⟨_, .bl _, fun Q q => ⟨l, _, rfl, hs, flat_toV hf.1, all_flatV hf.2, ?_⟩⟩
      have z : inV (toV a) (xs.map toV) = dIn a xs := by
        unfold inV dIn
        rw [List.any_map]
        rfl
      rw [z]
      exact q
    · cases e
  · cases e
theorem opd_inS : OpD S (compareOp .In) (gInS false) := opd_inS_of fun _ => op_in_seq
theorem opd_ninS : OpD S (compareOp .NotIn) (gInS true) := opd_inS_of fun _ => op_notIn_seq
def gIn : Mem → D → D → Option D := fun M x y => orO (gInC false M x y) (gInS false M x y)
def gNin : Mem → D → D → Option D := fun M x y => orO (gInC true M x y) (gInS true M x y)
theorem opd_in : OpD S (compareOp .In) gIn := opd_inC.or opd_inS
theorem opd_nin : OpD S (compareOp .NotIn) gNin := opd_ninC.or opd_ninS
def gMulA : Mem → D → D → Option D := fun M x y => orO (gMul M x y) (gRepS M x y)
theorem opd_mulA : OpD S (binaryOp .Mult) gMulA := opd_mul.or opd_repS
end
end PV

-- PV17
/-! the law's def at the caller -/
namespace PV
open PySem PySem.Spec PyProof.Rows L2

/-- the tracked heap at the head: the script alone, or nothing -/
def headHp (a : Addr) (x : Option HO) : Hp := fun b => if b = a then x else none
theorem headHp_of {a b : Addr} {x : Option HO} {u : HO} (h : headHp a x b = some u) : b = a ∧ x = some u := by
  unfold headHp at h
  split at h
  · exact ⟨‹_›, h⟩
  · cases h
section
variable {P : Program} {w : World} {K : PySem.W.Frag} {mg mb : Str → Option Value} {k : Nat} {fa a : Addr} {fd : FuncData} {x : Str} {sp : Sp} {s : Shared} {vs : List Value} {ns : List Int}
abbrev scriptObj (vs : List Value) : Obj := { cls := .type "list", data := .seq vs.toArray }
/-- what the caller wants of the call -/
abbrev Wanted (s : Shared) : Result → Shared → Prop := fun r s' => r = .ok (.ret (.bool true)) ∧ OldK s.heap s'.heap ∧ s'.os = s.os ∧ AllBare s'.gens
theorem head_one {xo : Option HO} (hx : xo = none ∨ (xo = some (.frz (scriptObj vs) (.lst (ns.map V.int))) ∧ K.lookup a = none))
    (KX : K.In s.heap) (hns : s.heap.Ns mainGlobals mg) (hb : s.heap.Ns builtinsNs mb) (hbb : ∀ x : Str, x ≠ "__name__" → mb x = bootBuiltins x) (hlim : s.heap.NoLimit) (hg : s.gens = #[])
    (ha : s.heap.get? a = some (scriptObj vs)) (rv : Vals (ns.map V.int) vs) (hl : ns.length ≤ sizeLine) (hr : Room k callerA)
    (F : ∀ base : Heap, K.In base → base.Ns mainGlobals mg → FnG ⟨K, mg, P, w, base⟩ k fa fd [x] sp) (hbind : ∀ (s : Shared) (u : Value), BindsTo s fd ⟨[u], []⟩ [(x, u)])
    (hsp : sp [.ref a] (headHp a xo) (fun v _ => v = .bl true) E0) : codeAny (model P w) callerA (.call (.ref fa) ⟨[.ref a], []⟩) (Wanted s) s := by
  have hok : HOk P w (headHp a xo) s.heap := fun b u z => by
    obtain ⟨rfl, e⟩ := headHp_of z
    rcases hx with hx | ⟨hx, _⟩
    · rw [hx] at e; cases e
    · rw [hx] at e
      cases e
      exact ⟨ha, by rw [List.length_map]; exact hl, vs, _, rv, ha⟩
  have dictFree : ∀ {b : Addr} {o : Obj} {es : Array DictEntry} {n : Nat}, s.heap.get? b = some o → o.data = .dict es n → headHp a xo b = none := fun {b o es n} e d => by
    unfold headHp
    split
    · rename_i z
      subst z
      rw [ha] at e
      cases e
      cases d
    · rfl
  have nsB : ∀ {b : Addr} {m : Str → Option Value}, s.heap.Ns b m → (hidT s.heap (headHp a xo)).Ns b m := fun {b m} ⟨o, es, n, e, d, r⟩ => ⟨o, es, n, hidT_get e (dictFree e d), d, r⟩
  have kB : K.In (hidT s.heap (headHp a xo)) := fun b o e => hidT_get (KX b o e) (by
    unfold headHp
    split
    · rename_i z
      subst z
      rcases hx with hx | ⟨_, hn⟩
      · exact hx
      · rw [e] at hn; cases hn
    · rfl)
  have lim : (hidT s.heap (headHp a xo)).NoLimit := by
    obtain ⟨m, h1, h2⟩ := hlim
    exact ⟨m, nsB h1, h2⟩
  have md : Mod K mg (hidT s.heap (headHp a xo)) := { kin := kB, glob := nsB hns, blt := ⟨mb, nsB hb, hbb⟩, nolimit := lim }
  have e0 : Env0 P w K mg (hidT s.heap (headHp a xo)) callerA [] s (headHp a xo) :=
    { frames := rfl, mod := md, bs := fun b o e => of_hidT e, bsz := Nat.le_of_eq (hidT_size _ _), funs := trivial, frf := fun b hm => absurd hm (List.not_mem_nil), hok := hok, bare := .of_eq hg }
  refine codeAny_mono ((F _ kB (nsB hns)).run callerA [] s (headHp a xo) ⟨[.ref a], []⟩ [.ref a] [.ref a] _ E0 rfl hr e0 (hbind s _) (.cons rfl .nil) hsp) fun r s' hz => ?_
  match r, hz with
  | .error _, hz => exact hz.elim
  | .ok .next, hz => exact hz.elim
  | .ok .brk, hz => exact hz.elim
  | .ok .cont, hz => exact hz.elim
  | .ok (.ret u), ⟨v, H', os, bare, un, hok', rr, q⟩ =>
    have q : v = .bl true := q
    subst q
    obtain rfl : u = Value.bool true := rr
    refine ⟨rfl, OldK.of_keep fun b o e => ?_, os, bare⟩
    cases hb : headHp a xo b with
    | none => exact un.keep b o e hb (List.not_mem_nil) (List.not_mem_nil)
    | some y =>
      obtain ⟨rfl, z⟩ := headHp_of hb
      rcases hx with hx | ⟨hx, _⟩
      · rw [hx] at z; cases z
      · rw [hx] at z
        cases z
        have t := (hok' _ _ (un.frzs _ _ _ hb)).1
        rw [ha] at e
        cases e
        exact t
theorem head_two (KX : K.In s.heap) (hns : s.heap.Ns mainGlobals mg) (hb : s.heap.Ns builtinsNs mb) (hbb : ∀ x : Str, x ≠ "__name__" → mb x = bootBuiltins x) (hlim : s.heap.NoLimit) (hg : s.gens = #[])
    (ha : s.heap.get? a = some (scriptObj vs)) (hi : IntsAre vs ns) (hl : ns.length ≤ sizeLine) (hr : Room k callerA)
    (F : ∀ base : Heap, K.In base → base.Ns mainGlobals mg → FnG ⟨K, mg, P, w, base⟩ k fa fd [x] sp) (hbind : ∀ (s : Shared) (u : Value), BindsTo s fd ⟨[u], []⟩ [(x, u)])
    (hsp : ∀ H : Hp, SqC K H a (ns.map V.int) → sp [.ref a] H (fun v _ => v = .bl true) E0) : codeAny (model P w) callerA (.call (.ref fa) ⟨[.ref a], []⟩) (Wanted s) s := by
  have rv := vals_ints hi
  cases hk : K.lookup a with
  | none => exact head_one (.inr ⟨rfl, hk⟩) KX hns hb hbb hlim hg ha rv hl hr F hbind (hsp _ (.inl ⟨scriptObj vs, if_pos rfl⟩))
  | some o =>
    have e := (KX a o hk).symm.trans ha
    cases e
    refine head_one (.inl rfl) KX hns hb hbb hlim hg ha rv hl hr F hbind (hsp _ (.inr ⟨_, vs.toArray, _, hk, rfl, rfl, rfl, ?_, by simpa using rv⟩))
    rw [List.size_toArray, ← rv.length, List.length_map]
    exact hl
end
theorem dv_ints {K : PySem.W.Frag} {H : Hp} {ρ : List Addr} : ∀ ns : List Int, DvAll K H ρ (ns.map V.int) (ns.map D.int)
  | [] => .nil
  | n :: r => .cons (.int n) (dv_ints r)
/-- the law's def tells True of every script: behind the head -/
theorem law_walk {l : PySem.W.OpenLaw} {n k : Nat} {q : Program} {loose : List Str} {XP : (Str → Option Value) → Heap → Prop} {YP : World → Heap → Prop} {d : DefRec} {K : Params → PySem.W.Frag} {x : Str} {f : FD}
    (hn : l.most = some n) (hn2 : n ≤ sizeLine) (hdf : d.params.defaults = []) (hr : Room k callerA) (hY : ∀ (w : World) (h : Heap), YP w h → (K w.params).In h)
    (F : ∀ (w : World) (mg : Str → Option Value) (fa : Addr) (h : Heap), (K w.params).In h → h.Ns mainGlobals mg → mg d.name = some (.ref fa) →
      ∃ fd : FuncData, (∀ (s : Shared) (u : Value), BindsTo s fd ⟨[u], []⟩ [(x, u)]) ∧ ∀ base : Heap, (K w.params).In base → base.Ns mainGlobals mg → FnG ⟨K w.params, mg, l.prog, w, base⟩ k fa fd [x] (spD (K w.params) 1 f))
    (truth : ∀ ns : List Int, ns.length ≤ n → ∃ M, f [.cl (ns.map D.int)] [] = some (.bl true, M)) : PySem.W.WalkO q loose XP YP l.row.toRowW d [] (fun f vs => PySem.call f vs) := by
  refine Att.attach_call hn hdf fun w s₀ s₁ mg mb fa o pm cd doc a vs ns G Y ho hd hcd hmg hobj hints hlen hg => ?_
  have KX := hY w _ Y
  obtain ⟨fd, hb, hF⟩ := F w mg fa _ KX G.T.g hmg
  refine head_two KX G.T.g G.T.b G.T.builtins G.T.nolimit hg hobj hints (Nat.le_trans hlen hn2) hr hF hb fun H hS => ?_
  obtain ⟨M, e⟩ := truth ns hlen
  refine ⟨rfl, [], [], _, _, M, ⟨rfl, List.nodup_nil, fun n o z => by simp at z⟩, .cons (.cl hS (dv_ints ns)) .nil, e, fun v H' ρ' _ _ r => ?_⟩
  cases r
  rfl
end PV

-- PV18
namespace PV
open PySem PySem.Spec PyProof.Rows L2
/-- a constant of the text -/
def GlobT (T : Txt) (x : Str) (d : D) : Prop := ∃ (v : V) (u : Value), T.mg x = some u ∧ RelV v u ∧ ∀ H ρ, Dv T.K H ρ v d
theorem GlobT.at {T : Txt} {x : Str} {d : D} {N : List Str} {k : Nat} (h : GlobT T x d) : GlobD (T.st N k) x d := h
theorem bgl {T : Txt} {N : List Str} {k : Nat} {sc : Scope} {x : Str} (h : T.mg x = none) (hs : glB sc x = true := by decide +kernel) : BGl (T.st N k) sc x := ⟨hs, h⟩
def noStar : Expr → Bool
  | .Starred .. => false
  | _ => true
theorem par_ok {x y : Str} {a b : Expr} {px py pt pt2 : Pos} {kt k2} (hxy : (x == y) = false) (hl : (py.line == px.line) = true) (hs1 : noStar a = true) (hs2 : noStar b = true)
    (hf : foldedForSure 8 a = false ∨ foldedForSure 8 b = false) (hc : constantsAlone 8 a = false ∨ constantsAlone 8 b = false)
    (env : PySem.Env) (hk : env.scope.kind = .function) (h1 : env.scope.names.lookup x = some .local) (h2 : env.scope.names.lookup y = some .local) :
    swappedStores [.Tuple [.Name x px, .Name y py] kt pt] (.Tuple [a, b] k2 pt2) env = pure (some [x, y]) := by
  have bk : env.blockKind = .function := by
    unfold Env.blockKind
    rw [hk]
    rfl
  have e1 : env.kindOf x = some .local := h1
  have e2 : env.kindOf y = some .local := h2
  have ef : ([a, b].all (foldedForSure 8)) = false := by
    rcases hf with h | h <;> simp [h]
  have ec : ([a, b].all (constantsAlone 8)) = false := by
    rcases hc with h | h <;> simp [h]
  have hl' : (py.line = px.line) := by simpa using hl
  have q1 : (Expr.Name x px).pos = px := rfl
  have q3 : [x, y].eraseDups.length = 2 := by
    have : (y == x) = false := by rw [BEq.comm]; exact hxy
    simp [List.eraseDups, List.eraseDupsBy, List.eraseDupsBy.loop, this]
  unfold swappedStores
  have hst : ([a, b].any fun | .Starred .. => true | _ => false) = false := by
    cases a <;> cases b <;> first | rfl | exact absurd (show false = true from hs1) Bool.false_ne_true | exact absurd (show false = true from hs2) Bool.false_ne_true
  simp only [bk]
  show (if (!(true || false) || false || ScopeKind.function != ScopeKind.function) = true then _ else _) = _
  rw [if_neg (by decide)]
  show (if ([a, b].any fun | .Starred .. => true | _ => false) = true then _ else _) = _
  rw [hst, if_neg Bool.false_ne_true]
  have w1 : ∀ l : List Str, l = [x, y] → (l.length != 2 || l.eraseDups.length != l.length) = false := fun l hl => by
    rw [hl, q3]
    rfl
  have w2 : ∀ (l : List Str) (k : Sem (Option (List Str))) (g : List Str → Sem (Option (List Str))), l = [x, y] → (if (l.length != [Expr.Name x px, Expr.Name y py].length || l.eraseDups.length != l.length) = true then k else g l) = g [x, y] := fun l k g hl => by
    subst hl
    rw [if_neg]
    rw [show ([Expr.Name x px, Expr.Name y py].length) = 2 from rfl, w1 _ rfl]
    exact Bool.false_ne_true
  refine (w2 _ _ (fun l => if [a, b].all (foldedForSure 8) = true then pure none else if [a, b].all (constantsAlone 8) = true then (do
    unsupported "assign.tuple-of-constant-expressions:order-of-the-stores"
    return some l) else return some l) ?_).trans ?_
  · have ql : (Option.map (fun z : Expr => z.pos.line) [Expr.Name x px, Expr.Name y py].head?).getD 0 = px.line := rfl
    simp [List.filterMap_cons, q1, e1, e2, hl', ql]
  show (if ([a, b].all (foldedForSure 8)) = true then _ else _) = _
  rw [ef, if_neg Bool.false_ne_true]
  show (if ([a, b].all (constantsAlone 8)) = true then _ else _) = _
  rw [ec, if_neg Bool.false_ne_true]
end PV

-- K01A
namespace K01
open PySem PySem.Spec PyProof.Rows L2 PV
def top (i : Nat) : Stmt := PySem.Challenge.pw_asnevertold_k01_names_and_tables.main.body.getD i (.Pass ⟨0, 0, 0, 0⟩)
/-- what the top binds, or leaves free -/
structure Top (T : Txt) : Prop where
  b_all : T.mg "all" = none
  b_bool : T.mg "bool" = none
  b_enumerate : T.mg "enumerate" = none
  b_int : T.mg "int" = none
  b_isinstance : T.mg "isinstance" = none
  b_len : T.mg "len" = none
  b_list : T.mg "list" = none
  b_max : T.mg "max" = none
  b_range : T.mg "range" = none
  b_repr : T.mg "repr" = none
  b_set : T.mg "set" = none
  b_str : T.mg "str" = none
  b_tuple : T.mg "tuple" = none
  c_KINDS : GlobT T "KINDS" (.tup [(.str "person"), (.str "number")])
  c_LAST_MOMENT : GlobT T "LAST_MOMENT" (.int 999)
  c_LAST_WORTH : GlobT T "LAST_WORTH" (.int 9)
  c_LETTERS : GlobT T "LETTERS" (.str "abcdefghijklmnopqrstuvwxyz")
  c_LONGEST_NAME : GlobT T "LONGEST_NAME" (.int 8)
  c_MOST_COLUMNS : GlobT T "MOST_COLUMNS" (.int 6)
  c_MOST_TABLES : GlobT T "MOST_TABLES" (.int 6)
  c_RULES : GlobT T "RULES" (.tup [(.str "row"), (.str "part")])

abbrev s_is_whole : Stmt := top 5
def n_is_whole : List Str := ["thing"]
def g_is_whole : FS := (gRet (fAndV (fIsi "int" (fV 0)) (fNotV (fIsi "bool" (fV 0)))))
def f_is_whole : FD := defD g_is_whole 1 1
theorem sc_is_whole : FnScope n_is_whole ["thing"] (defScope s_is_whole) := ⟨rfl, rfl, rfl, by decide +kernel, rfl, by decide +kernel, by decide +kernel⟩
theorem bi_is_whole {K : PySem.W.Frag} {a : Addr} {fd : FuncData} (F : Fun K "is_whole" "is_whole" s_is_whole a fd) : Binds K fd ["thing"] [] := F.binds (ps := ["thing"]) fun _ _ _ _ _ _ us hl => match us, hl with | [_], _ => rfl
theorem ok_is_whole {T : Txt} (Y : Top T) {a : Addr} {fd : FuncData} (F : Fun T.K "is_whole" "is_whole" s_is_whole a fd) (hx : T.mg "is_whole" = some (.ref a)) : DefOk T "is_whole" 1 1 f_is_whole :=
  def_ok (k := 0) (N := n_is_whole) (g := g_is_whole) F hx (bi_is_whole F) sc_is_whole
    (sss_one (ss_ret (se_and (se_isi (T := "int") (bgl Y.b_isinstance) (bgl Y.b_int) boot_int rfl (se_var 0 rfl (by decide +kernel))) (se_one (se_not (se_isi (T := "bool") (bgl Y.b_isinstance) (bgl Y.b_bool) boot_bool rfl (se_var 0 rfl (by decide +kernel))))))))

abbrev s_is_whole_within : Stmt := top 6
def n_is_whole_within : List Str := ["thing", "least", "most"]
def g_is_whole_within : FS := (gRet (fAndV (fDef f_is_whole (fCons (fV 0) fNil)) (fChain gLeI gLeI (fV 1) (fV 0) (fV 2))))
def f_is_whole_within : FD := defD g_is_whole_within 3 3
theorem sc_is_whole_within : FnScope n_is_whole_within ["thing", "least", "most"] (defScope s_is_whole_within) := ⟨rfl, rfl, rfl, by decide +kernel, rfl, by decide +kernel, by decide +kernel⟩
theorem bi_is_whole_within {K : PySem.W.Frag} {a : Addr} {fd : FuncData} (F : Fun K "is_whole_within" "is_whole_within" s_is_whole_within a fd) : Binds K fd ["thing", "least", "most"] [] := F.binds (ps := ["thing", "least", "most"]) fun _ _ _ _ _ _ us hl => match us, hl with | [_, _, _], _ => rfl
theorem ok_is_whole_within {T : Txt} (Y : Top T) (D_is_whole : DefOk T "is_whole" 1 1 f_is_whole) {a : Addr} {fd : FuncData} (F : Fun T.K "is_whole_within" "is_whole_within" s_is_whole_within a fd) (hx : T.mg "is_whole_within" = some (.ref a)) : DefOk T "is_whole_within" 3 2 f_is_whole_within :=
  def_ok (k := 1) (N := n_is_whole_within) (g := g_is_whole_within) F hx (bi_is_whole_within F) sc_is_whole_within
    (sss_one (ss_ret (se_and (se_def D_is_whole (by decide) (by decide +kernel) (sa_cons (se_var 0 rfl (by decide +kernel)) sa_nil) rfl) (se_one (se_chain opd_leI opd_leI (se_var 1 rfl (by decide +kernel)) (se_var 0 rfl (by decide +kernel)) (se_var 2 rfl (by decide +kernel)))))))

abbrev s_is_name : Stmt := top 7
def n_is_name : List Str := ["thing", "sign"]
def g_is_name : FS := (gSeq (gIf (fOrT (fNotT (fTest (fIsi "str" (fV 0)))) (fNotT (fTest (fChain gLeI gLeI (fC (.int 1)) (fCall gLen (fCons (fV 0) fNil)) (fC (.int 8)))))) (gRet (fC (.bl false))) gSkip)
  (gRet (fAll (fLc (iVal (fV 0)) [1] (hName 1) fYes (fOp gIn (fV 1) (fC (.str "abcdefghijklmnopqrstuvwxyz")))))))
def f_is_name : FD := defD g_is_name 2 1
theorem sc_is_name : FnScope n_is_name ["thing"] (defScope s_is_name) := ⟨rfl, rfl, rfl, by decide +kernel, rfl, by decide +kernel, by decide +kernel⟩
theorem bi_is_name {K : PySem.W.Frag} {a : Addr} {fd : FuncData} (F : Fun K "is_name" "is_name" s_is_name a fd) : Binds K fd ["thing"] [] := F.binds (ps := ["thing"]) fun _ _ _ _ _ _ us hl => match us, hl with | [_], _ => rfl
theorem ok_is_name {T : Txt} (Y : Top T) {a : Addr} {fd : FuncData} (F : Fun T.K "is_name" "is_name" s_is_name a fd) (hx : T.mg "is_name" = some (.ref a)) : DefOk T "is_name" 1 1 f_is_name :=
  def_ok (k := 0) (N := n_is_name) (g := g_is_name) F hx (bi_is_name F) sc_is_name
    (sss_cons (ss_if (STw.st (stw_or (st_not (st_val (se_isi (T := "str") (bgl Y.b_isinstance) (bgl Y.b_str) boot_str rfl (se_var 0 rfl (by decide +kernel))))) (stw_or1 (st_not (st_chain opd_leI opd_leI se_int (se_len (bgl Y.b_len) (se_var 0 rfl (by decide +kernel))) (se_glob (Y.c_LONGEST_NAME.at) (by decide +kernel))))))) (sss_one (ss_ret se_bl)) sss_nil)
    (sss_one (ss_ret (se_all (bgl Y.b_all) (sf_lc (si_val (se_var 0 rfl (by decide +kernel))) (sg_name 1 rfl (by decide +kernel)) sts_nil (se_cmp opd_in (se_var 1 rfl (by decide +kernel)) (se_glob (Y.c_LETTERS.at) (by decide +kernel))) [("sign", 1)] (show blkC n_is_name _ _ _ = true by decide +kernel) (by decide))))))

abbrev s_is_worth : Stmt := top 8
def n_is_worth : List Str := ["thing"]
def g_is_worth : FS := (gRet (fDef f_is_whole_within (fCons (fV 0) (fCons (fC (.int 0)) (fCons (fC (.int 9)) fNil)))))
def f_is_worth : FD := defD g_is_worth 1 1
theorem sc_is_worth : FnScope n_is_worth ["thing"] (defScope s_is_worth) := ⟨rfl, rfl, rfl, by decide +kernel, rfl, by decide +kernel, by decide +kernel⟩
theorem bi_is_worth {K : PySem.W.Frag} {a : Addr} {fd : FuncData} (F : Fun K "is_worth" "is_worth" s_is_worth a fd) : Binds K fd ["thing"] [] := F.binds (ps := ["thing"]) fun _ _ _ _ _ _ us hl => match us, hl with | [_], _ => rfl
theorem ok_is_worth {T : Txt} (Y : Top T) (D_is_whole_within : DefOk T "is_whole_within" 3 2 f_is_whole_within) {a : Addr} {fd : FuncData} (F : Fun T.K "is_worth" "is_worth" s_is_worth a fd) (hx : T.mg "is_worth" = some (.ref a)) : DefOk T "is_worth" 1 3 f_is_worth :=
  def_ok (k := 2) (N := n_is_worth) (g := g_is_worth) F hx (bi_is_worth F) sc_is_worth
    (sss_one (ss_ret (se_def D_is_whole_within (by decide) (by decide +kernel) (sa_cons (se_var 0 rfl (by decide +kernel)) (sa_cons se_int (sa_cons (se_glob (Y.c_LAST_WORTH.at) (by decide +kernel)) sa_nil))) rfl)))

abbrev s_is_moment : Stmt := top 9
def n_is_moment : List Str := ["thing"]
def g_is_moment : FS := (gRet (fDef f_is_whole_within (fCons (fV 0) (fCons (fC (.int 0)) (fCons (fC (.int 999)) fNil)))))
def f_is_moment : FD := defD g_is_moment 1 1
theorem sc_is_moment : FnScope n_is_moment ["thing"] (defScope s_is_moment) := ⟨rfl, rfl, rfl, by decide +kernel, rfl, by decide +kernel, by decide +kernel⟩
theorem bi_is_moment {K : PySem.W.Frag} {a : Addr} {fd : FuncData} (F : Fun K "is_moment" "is_moment" s_is_moment a fd) : Binds K fd ["thing"] [] := F.binds (ps := ["thing"]) fun _ _ _ _ _ _ us hl => match us, hl with | [_], _ => rfl
theorem ok_is_moment {T : Txt} (Y : Top T) (D_is_whole_within : DefOk T "is_whole_within" 3 2 f_is_whole_within) {a : Addr} {fd : FuncData} (F : Fun T.K "is_moment" "is_moment" s_is_moment a fd) (hx : T.mg "is_moment" = some (.ref a)) : DefOk T "is_moment" 1 3 f_is_moment :=
  def_ok (k := 2) (N := n_is_moment) (g := g_is_moment) F hx (bi_is_moment F) sc_is_moment
    (sss_one (ss_ret (se_def D_is_whole_within (by decide) (by decide +kernel) (sa_cons (se_var 0 rfl (by decide +kernel)) (sa_cons se_int (sa_cons (se_glob (Y.c_LAST_MOMENT.at) (by decide +kernel)) sa_nil))) rfl)))

abbrev s_is_one_of : Stmt := top 10
def n_is_one_of : List Str := ["words", "thing"]
def g_is_one_of : FS := (gRet (fAndV (fDef f_is_name (fCons (fV 1) fNil)) (fOp gIn (fV 1) (fV 0))))
def f_is_one_of : FD := defD g_is_one_of 2 2
theorem sc_is_one_of : FnScope n_is_one_of ["words", "thing"] (defScope s_is_one_of) := ⟨rfl, rfl, rfl, by decide +kernel, rfl, by decide +kernel, by decide +kernel⟩
theorem bi_is_one_of {K : PySem.W.Frag} {a : Addr} {fd : FuncData} (F : Fun K "is_one_of" "is_one_of" s_is_one_of a fd) : Binds K fd ["words", "thing"] [] := F.binds (ps := ["words", "thing"]) fun _ _ _ _ _ _ us hl => match us, hl with | [_, _], _ => rfl
theorem ok_is_one_of {T : Txt} (Y : Top T) (D_is_name : DefOk T "is_name" 1 1 f_is_name) {a : Addr} {fd : FuncData} (F : Fun T.K "is_one_of" "is_one_of" s_is_one_of a fd) (hx : T.mg "is_one_of" = some (.ref a)) : DefOk T "is_one_of" 2 2 f_is_one_of :=
  def_ok (k := 1) (N := n_is_one_of) (g := g_is_one_of) F hx (bi_is_one_of F) sc_is_one_of
    (sss_one (ss_ret (se_and (se_def D_is_name (by decide) (by decide +kernel) (sa_cons (se_var 1 rfl (by decide +kernel)) sa_nil) rfl) (se_one (se_cmp opd_in (se_var 1 rfl (by decide +kernel)) (se_var 0 rfl (by decide +kernel)))))))

abbrev s_are_unlike : Stmt := top 11
def n_are_unlike : List Str := ["things", "thing"]
def g_are_unlike : FS := (gRet (fOp gEq (fLenSet (fLc (iVal (fV 0)) [1] (hName 1) fYes (fOp gIx (fV 1) (fC (.int 0))))) (fCall gLen (fCons (fV 0) fNil))))
def f_are_unlike : FD := defD g_are_unlike 2 1
theorem sc_are_unlike : FnScope n_are_unlike ["things"] (defScope s_are_unlike) := ⟨rfl, rfl, rfl, by decide +kernel, rfl, by decide +kernel, by decide +kernel⟩
theorem bi_are_unlike {K : PySem.W.Frag} {a : Addr} {fd : FuncData} (F : Fun K "are_unlike" "are_unlike" s_are_unlike a fd) : Binds K fd ["things"] [] := F.binds (ps := ["things"]) fun _ _ _ _ _ _ us hl => match us, hl with | [_], _ => rfl
theorem ok_are_unlike {T : Txt} (Y : Top T) {a : Addr} {fd : FuncData} (F : Fun T.K "are_unlike" "are_unlike" s_are_unlike a fd) (hx : T.mg "are_unlike" = some (.ref a)) : DefOk T "are_unlike" 1 1 f_are_unlike :=
  def_ok (k := 0) (N := n_are_unlike) (g := g_are_unlike) F hx (bi_are_unlike F) sc_are_unlike
    (sss_one (ss_ret (se_cmp opd_eq (se_lenSet (bgl Y.b_len) (bgl Y.b_set) (sf_lc (si_val (se_var 0 rfl (by decide +kernel))) (sg_name 1 rfl (by decide +kernel)) sts_nil (se_ix (se_var 1 rfl (by decide +kernel)) se_int) [("thing", 1)] (show blkC n_are_unlike _ _ _ = true by decide +kernel) (by decide))) (se_len (bgl Y.b_len) (se_var 0 rfl (by decide +kernel))))))

abbrev s_is_column : Stmt := top 17
def n_is_column : List Str := ["thing", "name", "kind", "default"]
def g_is_column : FS := (gSeq (gIf (fOrT (fNotT (fTest (fIsi "tuple" (fV 0)))) (fTest (fOp gNe (fCall gLen (fCons (fV 0) fNil)) (fC (.int 3))))) (gRet (fC (.bl false))) gSkip)
  (gSeq (gAsg (fV 0) (hTup 3 (hCons (hName 1) (hCons (hName 2) (hCons (hName 3) hNil)))))
  (gSeq (gIf (fOrT (fNotT (fTest (fDef f_is_name (fCons (fV 1) fNil)))) (fNotT (fTest (fDef f_is_one_of (fCons (fC (.tup [(.str "person"), (.str "number")])) (fCons (fV 2) fNil)))))) (gRet (fC (.bl false))) gSkip)
  (gRet (fOrV (fOp (gIsN false) (fV 3) (fC .non)) (fAndV (fOp gEq (fV 2) (fC (.str "number"))) (fDef f_is_worth (fCons (fV 3) fNil))))))))
def f_is_column : FD := defD g_is_column 4 1
theorem sc_is_column : FnScope n_is_column ["thing"] (defScope s_is_column) := ⟨rfl, rfl, rfl, by decide +kernel, rfl, by decide +kernel, by decide +kernel⟩
theorem bi_is_column {K : PySem.W.Frag} {a : Addr} {fd : FuncData} (F : Fun K "is_column" "is_column" s_is_column a fd) : Binds K fd ["thing"] [] := F.binds (ps := ["thing"]) fun _ _ _ _ _ _ us hl => match us, hl with | [_], _ => rfl
theorem ok_is_column {T : Txt} (Y : Top T) (D_is_worth : DefOk T "is_worth" 1 3 f_is_worth) (D_is_one_of : DefOk T "is_one_of" 2 2 f_is_one_of) (D_is_name : DefOk T "is_name" 1 1 f_is_name) {a : Addr} {fd : FuncData} (F : Fun T.K "is_column" "is_column" s_is_column a fd) (hx : T.mg "is_column" = some (.ref a)) : DefOk T "is_column" 1 4 f_is_column :=
  def_ok (k := 3) (N := n_is_column) (g := g_is_column) F hx (bi_is_column F) sc_is_column
    (sss_cons (ss_if (STw.st (stw_or (st_not (st_val (se_isi (T := "tuple") (bgl Y.b_isinstance) (bgl Y.b_tuple) boot_tuple rfl (se_var 0 rfl (by decide +kernel))))) (stw_or1 (st_cmp opd_ne (se_len (bgl Y.b_len) (se_var 0 rfl (by decide +kernel))) se_int)))) (sss_one (ss_ret se_bl)) sss_nil)
    (sss_cons (ss_asg (se_var 0 rfl (by decide +kernel)) (sg_tup (n := 3) (sgs_cons (sg_name 1 rfl (by decide +kernel)) (sgs_cons (sg_name 2 rfl (by decide +kernel)) (sgs_cons (sg_name 3 rfl (by decide +kernel)) sgs_nil)))))
    (sss_cons (ss_if (STw.st (stw_or (st_not (st_val (se_def D_is_name (by decide) (by decide +kernel) (sa_cons (se_var 1 rfl (by decide +kernel)) sa_nil) rfl))) (stw_or1 (st_not (st_val (se_def D_is_one_of (by decide) (by decide +kernel) (sa_cons (se_glob (Y.c_KINDS.at) (by decide +kernel)) (sa_cons (se_var 2 rfl (by decide +kernel)) sa_nil)) rfl)))))) (sss_one (ss_ret se_bl)) sss_nil)
    (sss_one (ss_ret (se_or (se_cmp opd_isN (se_var 3 rfl (by decide +kernel)) se_non) (se_one (se_and (se_cmp opd_eq (se_var 2 rfl (by decide +kernel)) se_str) (se_one (se_def D_is_worth (by decide) (by decide +kernel) (sa_cons (se_var 3 rfl (by decide +kernel)) sa_nil) rfl))))))))))

abbrev s_are_columns : Stmt := top 18
def n_are_columns : List Str := ["thing", "column"]
def g_are_columns : FS := (gSeq (gIf (fOrT (fNotT (fTest (fIsi "tuple" (fV 0)))) (fNotT (fTest (fChain gLeI gLeI (fC (.int 1)) (fCall gLen (fCons (fV 0) fNil)) (fC (.int 6)))))) (gRet (fC (.bl false))) gSkip)
  (gRet (fAndV (fAll (fLc (iVal (fV 0)) [1] (hName 1) fYes (fDef f_is_column (fCons (fV 1) fNil)))) (fDef f_are_unlike (fCons (fV 0) fNil)))))
def f_are_columns : FD := defD g_are_columns 2 1
theorem sc_are_columns : FnScope n_are_columns ["thing"] (defScope s_are_columns) := ⟨rfl, rfl, rfl, by decide +kernel, rfl, by decide +kernel, by decide +kernel⟩
theorem bi_are_columns {K : PySem.W.Frag} {a : Addr} {fd : FuncData} (F : Fun K "are_columns" "are_columns" s_are_columns a fd) : Binds K fd ["thing"] [] := F.binds (ps := ["thing"]) fun _ _ _ _ _ _ us hl => match us, hl with | [_], _ => rfl
theorem ok_are_columns {T : Txt} (Y : Top T) (D_are_unlike : DefOk T "are_unlike" 1 1 f_are_unlike) (D_is_column : DefOk T "is_column" 1 4 f_is_column) {a : Addr} {fd : FuncData} (F : Fun T.K "are_columns" "are_columns" s_are_columns a fd) (hx : T.mg "are_columns" = some (.ref a)) : DefOk T "are_columns" 1 5 f_are_columns :=
  def_ok (k := 4) (N := n_are_columns) (g := g_are_columns) F hx (bi_are_columns F) sc_are_columns
    (sss_cons (ss_if (STw.st (stw_or (st_not (st_val (se_isi (T := "tuple") (bgl Y.b_isinstance) (bgl Y.b_tuple) boot_tuple rfl (se_var 0 rfl (by decide +kernel))))) (stw_or1 (st_not (st_chain opd_leI opd_leI se_int (se_len (bgl Y.b_len) (se_var 0 rfl (by decide +kernel))) (se_glob (Y.c_MOST_COLUMNS.at) (by decide +kernel))))))) (sss_one (ss_ret se_bl)) sss_nil)
    (sss_one (ss_ret (se_and (se_all (bgl Y.b_all) (sf_lc (si_val (se_var 0 rfl (by decide +kernel))) (sg_name 1 rfl (by decide +kernel)) sts_nil (se_def D_is_column (by decide) (by decide +kernel) (sa_cons (se_var 1 rfl (by decide +kernel)) sa_nil) rfl) [("column", 1)] (show blkC n_are_columns _ _ _ = true by decide +kernel) (by decide))) (se_one (se_def D_are_unlike (by decide) (by decide +kernel) (sa_cons (se_var 0 rfl (by decide +kernel)) sa_nil) rfl))))))

abbrev s_is_table : Stmt := top 19
def n_is_table : List Str := ["thing", "name", "columns", "rule"]
def g_is_table : FS := (gSeq (gIf (fOrT (fNotT (fTest (fIsi "tuple" (fV 0)))) (fTest (fOp gNe (fCall gLen (fCons (fV 0) fNil)) (fC (.int 3))))) (gRet (fC (.bl false))) gSkip)
  (gSeq (gAsg (fV 0) (hTup 3 (hCons (hName 1) (hCons (hName 2) (hCons (hName 3) hNil)))))
  (gRet (fAndV (fDef f_is_name (fCons (fV 1) fNil)) (fAndV (fDef f_are_columns (fCons (fV 2) fNil)) (fDef f_is_one_of (fCons (fC (.tup [(.str "row"), (.str "part")])) (fCons (fV 3) fNil))))))))
def f_is_table : FD := defD g_is_table 4 1
theorem sc_is_table : FnScope n_is_table ["thing"] (defScope s_is_table) := ⟨rfl, rfl, rfl, by decide +kernel, rfl, by decide +kernel, by decide +kernel⟩
theorem bi_is_table {K : PySem.W.Frag} {a : Addr} {fd : FuncData} (F : Fun K "is_table" "is_table" s_is_table a fd) : Binds K fd ["thing"] [] := F.binds (ps := ["thing"]) fun _ _ _ _ _ _ us hl => match us, hl with | [_], _ => rfl
theorem ok_is_table {T : Txt} (Y : Top T) (D_is_one_of : DefOk T "is_one_of" 2 2 f_is_one_of) (D_are_columns : DefOk T "are_columns" 1 5 f_are_columns) (D_is_name : DefOk T "is_name" 1 1 f_is_name) {a : Addr} {fd : FuncData} (F : Fun T.K "is_table" "is_table" s_is_table a fd) (hx : T.mg "is_table" = some (.ref a)) : DefOk T "is_table" 1 6 f_is_table :=
  def_ok (k := 5) (N := n_is_table) (g := g_is_table) F hx (bi_is_table F) sc_is_table
    (sss_cons (ss_if (STw.st (stw_or (st_not (st_val (se_isi (T := "tuple") (bgl Y.b_isinstance) (bgl Y.b_tuple) boot_tuple rfl (se_var 0 rfl (by decide +kernel))))) (stw_or1 (st_cmp opd_ne (se_len (bgl Y.b_len) (se_var 0 rfl (by decide +kernel))) se_int)))) (sss_one (ss_ret se_bl)) sss_nil)
    (sss_cons (ss_asg (se_var 0 rfl (by decide +kernel)) (sg_tup (n := 3) (sgs_cons (sg_name 1 rfl (by decide +kernel)) (sgs_cons (sg_name 2 rfl (by decide +kernel)) (sgs_cons (sg_name 3 rfl (by decide +kernel)) sgs_nil)))))
    (sss_one (ss_ret (se_and (se_def D_is_name (by decide) (by decide +kernel) (sa_cons (se_var 1 rfl (by decide +kernel)) sa_nil) rfl) (se_and (se_def D_are_columns (by decide) (by decide +kernel) (sa_cons (se_var 2 rfl (by decide +kernel)) sa_nil) rfl) (se_one (se_def D_is_one_of (by decide) (by decide +kernel) (sa_cons (se_glob (Y.c_RULES.at) (by decide +kernel)) (sa_cons (se_var 3 rfl (by decide +kernel)) sa_nil)) rfl))))))))

abbrev s_are_tables : Stmt := top 20
def n_are_tables : List Str := ["thing", "table"]
def g_are_tables : FS := (gSeq (gIf (fOrT (fNotT (fTest (fIsi "tuple" (fV 0)))) (fNotT (fTest (fChain gLeI gLeI (fC (.int 1)) (fCall gLen (fCons (fV 0) fNil)) (fC (.int 6)))))) (gRet (fC (.bl false))) gSkip)
  (gRet (fAndV (fAll (fLc (iVal (fV 0)) [1] (hName 1) fYes (fDef f_is_table (fCons (fV 1) fNil)))) (fDef f_are_unlike (fCons (fV 0) fNil)))))
def f_are_tables : FD := defD g_are_tables 2 1
theorem sc_are_tables : FnScope n_are_tables ["thing"] (defScope s_are_tables) := ⟨rfl, rfl, rfl, by decide +kernel, rfl, by decide +kernel, by decide +kernel⟩
theorem bi_are_tables {K : PySem.W.Frag} {a : Addr} {fd : FuncData} (F : Fun K "are_tables" "are_tables" s_are_tables a fd) : Binds K fd ["thing"] [] := F.binds (ps := ["thing"]) fun _ _ _ _ _ _ us hl => match us, hl with | [_], _ => rfl
theorem ok_are_tables {T : Txt} (Y : Top T) (D_are_unlike : DefOk T "are_unlike" 1 1 f_are_unlike) (D_is_table : DefOk T "is_table" 1 6 f_is_table) {a : Addr} {fd : FuncData} (F : Fun T.K "are_tables" "are_tables" s_are_tables a fd) (hx : T.mg "are_tables" = some (.ref a)) : DefOk T "are_tables" 1 7 f_are_tables :=
  def_ok (k := 6) (N := n_are_tables) (g := g_are_tables) F hx (bi_are_tables F) sc_are_tables
    (sss_cons (ss_if (STw.st (stw_or (st_not (st_val (se_isi (T := "tuple") (bgl Y.b_isinstance) (bgl Y.b_tuple) boot_tuple rfl (se_var 0 rfl (by decide +kernel))))) (stw_or1 (st_not (st_chain opd_leI opd_leI se_int (se_len (bgl Y.b_len) (se_var 0 rfl (by decide +kernel))) (se_glob (Y.c_MOST_TABLES.at) (by decide +kernel))))))) (sss_one (ss_ret se_bl)) sss_nil)
    (sss_one (ss_ret (se_and (se_all (bgl Y.b_all) (sf_lc (si_val (se_var 0 rfl (by decide +kernel))) (sg_name 1 rfl (by decide +kernel)) sts_nil (se_def D_is_table (by decide) (by decide +kernel) (sa_cons (se_var 1 rfl (by decide +kernel)) sa_nil) rfl) [("table", 1)] (show blkC n_are_tables _ _ _ = true by decide +kernel) (by decide))) (se_one (se_def D_are_unlike (by decide) (by decide +kernel) (sa_cons (se_var 0 rfl (by decide +kernel)) sa_nil) rfl))))))

abbrev s__law_numbers : Stmt := top 22
def n__law_numbers : List Str := ["_law_cell", "_law_salt", "_law_sizes", "_law_number", "_law_left", "_law_found", "_law_k", "_law_one"]
def g__law_numbers : FS := (gSeq (gSet (fCall gMax2 (fCons (fV 0) (fCons (fOp gSubI (fNeg (fC (.int 1))) (fV 0)) fNil))) 3)
  (gSeq (gSet (fV 3) 4)
  (gSeq (gSet (fNote (fLst fNil)) 5)
  (gSeq (gFor (iRange1 (fCall gLen (fCons (fV 2) fNil))) (hName 6) (gIf (fAndT (fTest (fOp gGeI (fV 3) (fOp gPowI (fC (.int 10)) (fC (.int 18))))) (fTest (fOp gGtI (fV 4) (fC (.int 0))))) (gSeq (gDrop (fAppend (fV 5) (fOp gModI (fV 4) (fOp gIx (fV 2) (fV 6)))))
  (gSet (fOp gDivI (fV 4) (fOp gIx (fV 2) (fV 6))) 4)) (gSeq (gSet (fOp gModI (fOp gPowI (fOp gAdd (fOp gAdd (fOp gModI (fV 3) (fC (.int 2147483629))) (fOp gMulA (fC (.int 7919)) (fV 1))) (fC (.int 1))) (fC (.int 3))) (fC (.int 2147483647))) 7)
  (gSeq (gSet (fOp gModI (fOp gMulA (fOp gAdd (fV 7) (fOp gMulA (fC (.int 104729)) (fOp gAdd (fV 6) (fC (.int 1))))) (fOp gAdd (fV 6) (fC (.int 3)))) (fC (.int 2147483629))) 7)
  (gSeq (gSet (fOp gModI (fOp gMulA (fOp gModI (fOp gPowI (fV 7) (fC (.int 5))) (fC (.int 2147483647))) (fC (.int 48271))) (fC (.int 2147483629))) 7)
  (gDrop (fAppend (fV 5) (fOp gModI (fOp gDivI (fV 7) (fC (.int 16))) (fOp gIx (fV 2) (fV 6))))))))))
  (gRet (fV 5))))))
def f__law_numbers : FD := defD g__law_numbers 8 3
theorem sc__law_numbers : FnScope n__law_numbers ["_law_cell", "_law_salt", "_law_sizes"] (defScope s__law_numbers) := ⟨rfl, rfl, rfl, by decide +kernel, rfl, by decide +kernel, by decide +kernel⟩
theorem bi__law_numbers {K : PySem.W.Frag} {a : Addr} {fd : FuncData} (F : Fun K "_law_numbers" "_law_numbers" s__law_numbers a fd) : Binds K fd ["_law_cell", "_law_salt", "_law_sizes"] [] := F.binds (ps := ["_law_cell", "_law_salt", "_law_sizes"]) fun _ _ _ _ _ _ us hl => match us, hl with | [_, _, _], _ => rfl
theorem ok__law_numbers {T : Txt} (Y : Top T) {a : Addr} {fd : FuncData} (F : Fun T.K "_law_numbers" "_law_numbers" s__law_numbers a fd) (hx : T.mg "_law_numbers" = some (.ref a)) : DefOk T "_law_numbers" 3 1 f__law_numbers :=
  def_ok (k := 0) (N := n__law_numbers) (g := g__law_numbers) F hx (bi__law_numbers F) sc__law_numbers
    (sss_cons (ss_set 3 rfl (by decide +kernel) (se_max2 (bgl Y.b_max) (se_var 0 rfl (by decide +kernel)) (se_bin opd_subI (se_neg se_int) (se_var 0 rfl (by decide +kernel)))))
    (sss_cons (ss_set 4 rfl (by decide +kernel) (se_var 3 rfl (by decide +kernel)))
    (sss_cons (ss_set 5 rfl (by decide +kernel) (se_note (sf_lst sa_nil)))
    (sss_cons (ss_for (si_range1 (bgl Y.b_range) (se_len (bgl Y.b_len) (se_var 2 rfl (by decide +kernel)))) (sg_name 6 rfl (by decide +kernel)) (sss_one (ss_if (STw.st (stw_and (st_cmp opd_geI (se_var 3 rfl (by decide +kernel)) (se_bin opd_powI se_int se_int)) (stw_and1 (st_cmp opd_gtI (se_var 4 rfl (by decide +kernel)) se_int)))) (sss_cons (ss_expr (se_append (se_var 5 rfl (by decide +kernel)) (se_bin opd_modI (se_var 4 rfl (by decide +kernel)) (se_ix (se_var 2 rfl (by decide +kernel)) (se_var 6 rfl (by decide +kernel))))))
    (sss_one (ss_set 4 rfl (by decide +kernel) (se_bin opd_divI (se_var 4 rfl (by decide +kernel)) (se_ix (se_var 2 rfl (by decide +kernel)) (se_var 6 rfl (by decide +kernel))))))) (sss_cons (ss_set 7 rfl (by decide +kernel) (se_bin opd_modI (se_bin opd_powI (se_bin opd_add (se_bin opd_add (se_bin opd_modI (se_var 3 rfl (by decide +kernel)) se_int) (se_bin opd_mulA se_int (se_var 1 rfl (by decide +kernel)))) se_int) se_int) se_int))
    (sss_cons (ss_set 7 rfl (by decide +kernel) (se_bin opd_modI (se_bin opd_mulA (se_bin opd_add (se_var 7 rfl (by decide +kernel)) (se_bin opd_mulA se_int (se_bin opd_add (se_var 6 rfl (by decide +kernel)) se_int))) (se_bin opd_add (se_var 6 rfl (by decide +kernel)) se_int)) se_int))
    (sss_cons (ss_set 7 rfl (by decide +kernel) (se_bin opd_modI (se_bin opd_mulA (se_bin opd_modI (se_bin opd_powI (se_var 7 rfl (by decide +kernel)) se_int) se_int) se_int) se_int))
    (sss_one (ss_expr (se_append (se_var 5 rfl (by decide +kernel)) (se_bin opd_modI (se_bin opd_divI (se_var 7 rfl (by decide +kernel)) se_int) (se_ix (se_var 2 rfl (by decide +kernel)) (se_var 6 rfl (by decide +kernel)))))))))))))
    (sss_one (ss_ret (se_var 5 rfl (by decide +kernel))))))))

abbrev s__law_persons : Stmt := top 23
def n__law_persons : List Str := ["_law_digits", "_law_letters", "_law_at"]
def g__law_persons : FS := (gSeq (gSet (fNote (fListS (fC (.str "abcdefghijklmnopqrstuvwxyz")))) 1)
  (gRet (fNote (fLc (iRange1 (fC (.int 3))) [2] (hName 2) fYes (fOp gMulA (fPopAt (fV 1) (fOp gModI (fOp gIx (fV 0) (fV 2)) (fCall gLen (fCons (fV 1) fNil)))) (fOp gAdd (fC (.int 1)) (fOp gModI (fOp gIx (fV 0) (fC (.int 3))) (fC (.int 8)))))))))
def f__law_persons : FD := defD g__law_persons 3 1
theorem sc__law_persons : FnScope n__law_persons ["_law_digits"] (defScope s__law_persons) := ⟨rfl, rfl, rfl, by decide +kernel, rfl, by decide +kernel, by decide +kernel⟩
theorem bi__law_persons {K : PySem.W.Frag} {a : Addr} {fd : FuncData} (F : Fun K "_law_persons" "_law_persons" s__law_persons a fd) : Binds K fd ["_law_digits"] [] := F.binds (ps := ["_law_digits"]) fun _ _ _ _ _ _ us hl => match us, hl with | [_], _ => rfl
theorem ok__law_persons {T : Txt} (Y : Top T) {a : Addr} {fd : FuncData} (F : Fun T.K "_law_persons" "_law_persons" s__law_persons a fd) (hx : T.mg "_law_persons" = some (.ref a)) : DefOk T "_law_persons" 1 1 f__law_persons :=
  def_ok (k := 0) (N := n__law_persons) (g := g__law_persons) F hx (bi__law_persons F) sc__law_persons
    (sss_cons (ss_set 1 rfl (by decide +kernel) (se_note (sf_listStr (bgl Y.b_list) se_str)))
    (sss_one (ss_ret (se_note (sf_lc (si_range1 (bgl Y.b_range) se_int) (sg_name 2 rfl (by decide +kernel)) sts_nil (se_bin opd_mulA (se_popAt (se_var 1 rfl (by decide +kernel)) (se_bin opd_modI (se_ix (se_var 0 rfl (by decide +kernel)) (se_var 2 rfl (by decide +kernel))) (se_len (bgl Y.b_len) (se_var 1 rfl (by decide +kernel))))) (se_bin opd_add se_int (se_bin opd_modI (se_ix (se_var 0 rfl (by decide +kernel)) se_int) se_int))) [("_law_at", 2)] (show blkC n__law_persons _ _ _ = true by decide +kernel) (by decide))))))

abbrev s__law_tables : Stmt := top 24
def n__law_tables : List Str := ["_law_digits", "_law_stem", "_law_rules", "_law_first", "_law_second", "_law_third", "_law_at"]
def g__law_tables : FS := (gSeq (gSet (fIxF (fLst (fCons (fC (.str "")) (fCons (fC (.str "x")) (fCons (fC (.str "zz")) fNil)))) (fOp gModI (fOp gIx (fV 0) (fC (.int 0))) (fC (.int 3)))) 1)
  (gSeq (gSet (fNote (fLc (iRange2 (fC (.int 1)) (fC (.int 4))) [6] (hName 6) fYes (fIxF (fLst (fCons (fC (.str "row")) (fCons (fC (.str "part")) fNil))) (fOp gModI (fOp gIx (fV 0) (fV 6)) (fC (.int 2)))))) 2)
  (gSeq (gSet (fTup (fCons (fTup (fCons (fC (.str "who")) (fCons (fC (.str "person")) (fCons (fC .non) fNil)))) (fCons (fTup (fCons (fC (.str "a")) (fCons (fC (.str "number")) (fCons (fC .non) fNil)))) (fCons (fTup (fCons (fC (.str "b")) (fCons (fC (.str "number")) (fCons (fIxF (fLst (fCons (fC .non) (fCons (fC (.int 3)) (fCons (fC (.int 0)) fNil)))) (fOp gModI (fOp gIx (fV 0) (fC (.int 4))) (fC (.int 3)))) fNil)))) fNil)))) 3)
  (gSeq (gSet (fTup (fCons (fTup (fCons (fC (.str "one")) (fCons (fC (.str "person")) (fCons (fC .non) fNil)))) (fCons (fTup (fCons (fC (.str "two")) (fCons (fC (.str "person")) (fCons (fC .non) fNil)))) (fCons (fTup (fCons (fC (.str "e")) (fCons (fC (.str "number")) (fCons (fIxF (fLst (fCons (fC .non) (fCons (fC (.int 2)) fNil))) (fOp gModI (fOp gIx (fV 0) (fC (.int 5))) (fC (.int 2)))) fNil)))) fNil)))) 4)
  (gSeq (gSet (fTup (fCons (fTup (fCons (fC (.str "c")) (fCons (fC (.str "number")) (fCons (fC .non) fNil)))) (fCons (fTup (fCons (fC (.str "d")) (fCons (fC (.str "number")) (fCons (fC (.int 1)) fNil)))) fNil))) 5)
  (gRet (fTup (fCons (fTup (fCons (fOp gAdd (fV 1) (fC (.str "p"))) (fCons (fV 3) (fCons (fOp gIx (fV 2) (fC (.int 0))) fNil)))) (fCons (fTup (fCons (fOp gAdd (fV 1) (fC (.str "q"))) (fCons (fV 4) (fCons (fOp gIx (fV 2) (fC (.int 1))) fNil)))) (fCons (fTup (fCons (fOp gAdd (fV 1) (fC (.str "r"))) (fCons (fV 5) (fCons (fOp gIx (fV 2) (fC (.int 2))) fNil)))) fNil))))))))))
def f__law_tables : FD := defD g__law_tables 7 1
theorem sc__law_tables : FnScope n__law_tables ["_law_digits"] (defScope s__law_tables) := ⟨rfl, rfl, rfl, by decide +kernel, rfl, by decide +kernel, by decide +kernel⟩
theorem bi__law_tables {K : PySem.W.Frag} {a : Addr} {fd : FuncData} (F : Fun K "_law_tables" "_law_tables" s__law_tables a fd) : Binds K fd ["_law_digits"] [] := F.binds (ps := ["_law_digits"]) fun _ _ _ _ _ _ us hl => match us, hl with | [_], _ => rfl
theorem ok__law_tables {T : Txt} (Y : Top T) {a : Addr} {fd : FuncData} (F : Fun T.K "_law_tables" "_law_tables" s__law_tables a fd) (hx : T.mg "_law_tables" = some (.ref a)) : DefOk T "_law_tables" 1 1 f__law_tables :=
  def_ok (k := 0) (N := n__law_tables) (g := g__law_tables) F hx (bi__law_tables F) sc__law_tables
    (sss_cons (ss_set 1 rfl (by decide +kernel) (se_ixF (sf_lst (sa_cons se_str (sa_cons se_str (sa_cons se_str sa_nil)))) (se_bin opd_modI (se_ix (se_var 0 rfl (by decide +kernel)) se_int) se_int)))
    (sss_cons (ss_setLc 2 rfl (by decide +kernel) (si_range2 (bgl Y.b_range) se_int se_int) (sg_name 6 rfl (by decide +kernel)) sts_nil (se_ixF (sf_lst (sa_cons se_str (sa_cons se_str sa_nil))) (se_bin opd_modI (se_ix (se_var 0 rfl (by decide +kernel)) (se_var 6 rfl (by decide +kernel))) se_int)) [("_law_at", 6)] (show blkC n__law_tables _ _ _ = true by decide +kernel) (by decide) rfl (by decide +kernel))
    (sss_cons (ss_set 3 rfl (by decide +kernel) (se_tup (sa_cons (se_tup (sa_cons se_str (sa_cons se_str (sa_cons se_non sa_nil)))) (sa_cons (se_tup (sa_cons se_str (sa_cons se_str (sa_cons se_non sa_nil)))) (sa_cons (se_tup (sa_cons se_str (sa_cons se_str (sa_cons (se_ixF (sf_lst (sa_cons se_non (sa_cons se_int (sa_cons se_int sa_nil)))) (se_bin opd_modI (se_ix (se_var 0 rfl (by decide +kernel)) se_int) se_int)) sa_nil)))) sa_nil)))))
    (sss_cons (ss_set 4 rfl (by decide +kernel) (se_tup (sa_cons (se_tup (sa_cons se_str (sa_cons se_str (sa_cons se_non sa_nil)))) (sa_cons (se_tup (sa_cons se_str (sa_cons se_str (sa_cons se_non sa_nil)))) (sa_cons (se_tup (sa_cons se_str (sa_cons se_str (sa_cons (se_ixF (sf_lst (sa_cons se_non (sa_cons se_int sa_nil))) (se_bin opd_modI (se_ix (se_var 0 rfl (by decide +kernel)) se_int) se_int)) sa_nil)))) sa_nil)))))
    (sss_cons (ss_set 5 rfl (by decide +kernel) (se_tup (sa_cons (se_tup (sa_cons se_str (sa_cons se_str (sa_cons se_non sa_nil)))) (sa_cons (se_tup (sa_cons se_str (sa_cons se_str (sa_cons se_int sa_nil)))) sa_nil))))
    (sss_one (ss_ret (se_tup (sa_cons (se_tup (sa_cons (se_bin opd_add (se_var 1 rfl (by decide +kernel)) se_str) (sa_cons (se_var 3 rfl (by decide +kernel)) (sa_cons (se_ix (se_var 2 rfl (by decide +kernel)) se_int) sa_nil)))) (sa_cons (se_tup (sa_cons (se_bin opd_add (se_var 1 rfl (by decide +kernel)) se_str) (sa_cons (se_var 4 rfl (by decide +kernel)) (sa_cons (se_ix (se_var 2 rfl (by decide +kernel)) se_int) sa_nil)))) (sa_cons (se_tup (sa_cons (se_bin opd_add (se_var 1 rfl (by decide +kernel)) se_str) (sa_cons (se_var 5 rfl (by decide +kernel)) (sa_cons (se_ix (se_var 2 rfl (by decide +kernel)) se_int) sa_nil)))) sa_nil)))))))))))

abbrev s__law_odd : Stmt := top 25
def n__law_odd : List Str := ["_law_digit", "_law_some"]
def g__law_odd : FS := (gSeq (gSet (fNote (fLst (fCons (fC .non) (fCons (fC (.bl true)) (fCons (fC (.bl false)) (fCons (fC (.str "")) (fCons (fC (.str "a")) (fCons (fC (.int 5)) (fCons (fNeg (fC (.int 1))) (fCons (fTup fNil) (fCons (fNote (fLst fNil)) (fCons (fC .emp) (fCons (fTup (fCons (fC (.str "a")) fNil)) (fCons (fNote (fLst (fCons (fTup (fCons (fC (.str "a")) (fCons (fC (.str "row")) fNil))) fNil))) (fCons (fC (.str "Ann")) (fCons (fOp gPowI (fC (.int 10)) (fC (.int 30))) (fCons (fC (.str "toolongword")) fNil))))))))))))))))) 1)
  (gRet (fIxF (fCatR (fV 1) (fLst (fCons (fTup (fCons (fC (.int 0)) fNil)) fNil))) (fOp gModI (fV 0) (fC (.int 16))))))
def f__law_odd : FD := defD g__law_odd 2 1
theorem sc__law_odd : FnScope n__law_odd ["_law_digit"] (defScope s__law_odd) := ⟨rfl, rfl, rfl, by decide +kernel, rfl, by decide +kernel, by decide +kernel⟩
theorem bi__law_odd {K : PySem.W.Frag} {a : Addr} {fd : FuncData} (F : Fun K "_law_odd" "_law_odd" s__law_odd a fd) : Binds K fd ["_law_digit"] [] := F.binds (ps := ["_law_digit"]) fun _ _ _ _ _ _ us hl => match us, hl with | [_], _ => rfl
theorem ok__law_odd {T : Txt} (Y : Top T) {a : Addr} {fd : FuncData} (F : Fun T.K "_law_odd" "_law_odd" s__law_odd a fd) (hx : T.mg "_law_odd" = some (.ref a)) : DefOk T "_law_odd" 1 1 f__law_odd :=
  def_ok (k := 0) (N := n__law_odd) (g := g__law_odd) F hx (bi__law_odd F) sc__law_odd
    (sss_cons (ss_set 1 rfl (by decide +kernel) (se_note (sf_lst (sa_cons se_non (sa_cons se_bl (sa_cons se_bl (sa_cons se_str (sa_cons se_str (sa_cons se_int (sa_cons (se_neg se_int) (sa_cons (se_tup sa_nil) (sa_cons (se_note (sf_lst sa_nil)) (sa_cons se_emp (sa_cons (se_tup (sa_cons se_str sa_nil)) (sa_cons (se_note (sf_lst (sa_cons (se_tup (sa_cons se_str (sa_cons se_str sa_nil))) sa_nil))) (sa_cons se_str (sa_cons (se_bin opd_powI se_int se_int) (sa_cons se_str sa_nil))))))))))))))))))
    (sss_one (ss_ret (se_ixF (sf_catR (se_var 1 rfl (by decide +kernel)) (slo_new (sf_lst (sa_cons (se_tup (sa_cons se_int sa_nil)) sa_nil)))) (se_bin opd_modI (se_var 0 rfl (by decide +kernel)) se_int)))))

abbrev s__law_is_name : Stmt := top 26
def n__law_is_name : List Str := ["_law_thing", "_law_sign"]
def g__law_is_name : FS := (gSeq (gIf (fOrT (fNotT (fTest (fIsi "str" (fV 0)))) (fNotT (fTest (fChain gLeI gLeI (fC (.int 1)) (fCall gLen (fCons (fV 0) fNil)) (fC (.int 8)))))) (gRet (fC (.bl false))) gSkip)
  (gRet (fEqN false (fLc (iVal (fV 0)) [1] (hName 1) (fTest (fOp gNin (fV 1) (fC (.str "abcdefghijklmnopqrstuvwxyz")))) (fV 1)) (fLst fNil))))
def f__law_is_name : FD := defD g__law_is_name 2 1
theorem sc__law_is_name : FnScope n__law_is_name ["_law_thing"] (defScope s__law_is_name) := ⟨rfl, rfl, rfl, by decide +kernel, rfl, by decide +kernel, by decide +kernel⟩
theorem bi__law_is_name {K : PySem.W.Frag} {a : Addr} {fd : FuncData} (F : Fun K "_law_is_name" "_law_is_name" s__law_is_name a fd) : Binds K fd ["_law_thing"] [] := F.binds (ps := ["_law_thing"]) fun _ _ _ _ _ _ us hl => match us, hl with | [_], _ => rfl
theorem ok__law_is_name {T : Txt} (Y : Top T) {a : Addr} {fd : FuncData} (F : Fun T.K "_law_is_name" "_law_is_name" s__law_is_name a fd) (hx : T.mg "_law_is_name" = some (.ref a)) : DefOk T "_law_is_name" 1 1 f__law_is_name :=
  def_ok (k := 0) (N := n__law_is_name) (g := g__law_is_name) F hx (bi__law_is_name F) sc__law_is_name
    (sss_cons (ss_if (STw.st (stw_or (st_not (st_val (se_isi (T := "str") (bgl Y.b_isinstance) (bgl Y.b_str) boot_str rfl (se_var 0 rfl (by decide +kernel))))) (stw_or1 (st_not (st_chain opd_leI opd_leI se_int (se_len (bgl Y.b_len) (se_var 0 rfl (by decide +kernel))) se_int))))) (sss_one (ss_ret se_bl)) sss_nil)
    (sss_one (ss_ret (se_eqN (sf_lc (si_val (se_var 0 rfl (by decide +kernel))) (sg_name 1 rfl (by decide +kernel)) (sts_one (st_cmp opd_nin (se_var 1 rfl (by decide +kernel)) se_str)) (se_var 1 rfl (by decide +kernel)) [("_law_sign", 1)] (show blkC n__law_is_name _ _ _ = true by decide +kernel) (by decide)) (sf_lst sa_nil)))))

abbrev s__law_is_whole : Stmt := top 27
def n__law_is_whole : List Str := ["_law_thing", "_law_least", "_law_most"]
def g__law_is_whole : FS := (gRet (fAndV (fIsi "int" (fV 0)) (fAndV (fNotV (fIsi "bool" (fV 0))) (fChain gLeI gLeI (fV 1) (fV 0) (fV 2)))))
def f__law_is_whole : FD := defD g__law_is_whole 3 3
theorem sc__law_is_whole : FnScope n__law_is_whole ["_law_thing", "_law_least", "_law_most"] (defScope s__law_is_whole) := ⟨rfl, rfl, rfl, by decide +kernel, rfl, by decide +kernel, by decide +kernel⟩
theorem bi__law_is_whole {K : PySem.W.Frag} {a : Addr} {fd : FuncData} (F : Fun K "_law_is_whole" "_law_is_whole" s__law_is_whole a fd) : Binds K fd ["_law_thing", "_law_least", "_law_most"] [] := F.binds (ps := ["_law_thing", "_law_least", "_law_most"]) fun _ _ _ _ _ _ us hl => match us, hl with | [_, _, _], _ => rfl
theorem ok__law_is_whole {T : Txt} (Y : Top T) {a : Addr} {fd : FuncData} (F : Fun T.K "_law_is_whole" "_law_is_whole" s__law_is_whole a fd) (hx : T.mg "_law_is_whole" = some (.ref a)) : DefOk T "_law_is_whole" 3 1 f__law_is_whole :=
  def_ok (k := 0) (N := n__law_is_whole) (g := g__law_is_whole) F hx (bi__law_is_whole F) sc__law_is_whole
    (sss_one (ss_ret (se_and (se_isi (T := "int") (bgl Y.b_isinstance) (bgl Y.b_int) boot_int rfl (se_var 0 rfl (by decide +kernel))) (se_and (se_not (se_isi (T := "bool") (bgl Y.b_isinstance) (bgl Y.b_bool) boot_bool rfl (se_var 0 rfl (by decide +kernel)))) (se_one (se_chain opd_leI opd_leI (se_var 1 rfl (by decide +kernel)) (se_var 0 rfl (by decide +kernel)) (se_var 2 rfl (by decide +kernel))))))))

abbrev s__law_is_column : Stmt := top 28
def n__law_is_column : List Str := ["_law_thing"]
def g__law_is_column : FS := (gSeq (gIf (fOrT (fNotT (fTest (fIsi "tuple" (fV 0)))) (fOrT (fTest (fOp gNe (fCall gLen (fCons (fV 0) fNil)) (fC (.int 3)))) (fNotT (fTest (fDef f__law_is_name (fCons (fOp gIx (fV 0) (fC (.int 0))) fNil)))))) (gRet (fC (.bl false))) gSkip)
  (gSeq (gIf (fTest (fOp gEq (fRepr (fOp gIx (fV 0) (fC (.int 1)))) (fRepr (fC (.str "person"))))) (gRet (fOp (gIsN false) (fOp gIx (fV 0) (fC (.int 2))) (fC .non))) gSkip)
  (gRet (fAndV (fOp gEq (fRepr (fOp gIx (fV 0) (fC (.int 1)))) (fRepr (fC (.str "number")))) (fOrV (fOp (gIsN false) (fOp gIx (fV 0) (fC (.int 2))) (fC .non)) (fDef f__law_is_whole (fCons (fOp gIx (fV 0) (fC (.int 2))) (fCons (fC (.int 0)) (fCons (fC (.int 9)) fNil)))))))))
def f__law_is_column : FD := defD g__law_is_column 1 1
theorem sc__law_is_column : FnScope n__law_is_column ["_law_thing"] (defScope s__law_is_column) := ⟨rfl, rfl, rfl, by decide +kernel, rfl, by decide +kernel, by decide +kernel⟩
theorem bi__law_is_column {K : PySem.W.Frag} {a : Addr} {fd : FuncData} (F : Fun K "_law_is_column" "_law_is_column" s__law_is_column a fd) : Binds K fd ["_law_thing"] [] := F.binds (ps := ["_law_thing"]) fun _ _ _ _ _ _ us hl => match us, hl with | [_], _ => rfl
theorem ok__law_is_column {T : Txt} (Y : Top T) (D__law_is_whole : DefOk T "_law_is_whole" 3 1 f__law_is_whole) (D__law_is_name : DefOk T "_law_is_name" 1 1 f__law_is_name) {a : Addr} {fd : FuncData} (F : Fun T.K "_law_is_column" "_law_is_column" s__law_is_column a fd) (hx : T.mg "_law_is_column" = some (.ref a)) : DefOk T "_law_is_column" 1 2 f__law_is_column :=
  def_ok (k := 1) (N := n__law_is_column) (g := g__law_is_column) F hx (bi__law_is_column F) sc__law_is_column
    (sss_cons (ss_if (STw.st (stw_or (st_not (st_val (se_isi (T := "tuple") (bgl Y.b_isinstance) (bgl Y.b_tuple) boot_tuple rfl (se_var 0 rfl (by decide +kernel))))) (stw_or (st_cmp opd_ne (se_len (bgl Y.b_len) (se_var 0 rfl (by decide +kernel))) se_int) (stw_or1 (st_not (st_val (se_def D__law_is_name (by decide) (by decide +kernel) (sa_cons (se_ix (se_var 0 rfl (by decide +kernel)) se_int) sa_nil) rfl))))))) (sss_one (ss_ret se_bl)) sss_nil)
    (sss_cons (ss_if (st_cmp opd_eq (se_repr (bgl Y.b_repr) (se_ix (se_var 0 rfl (by decide +kernel)) se_int)) (se_repr (bgl Y.b_repr) se_str)) (sss_one (ss_ret (se_cmp opd_isN (se_ix (se_var 0 rfl (by decide +kernel)) se_int) se_non))) sss_nil)
    (sss_one (ss_ret (se_and (se_cmp opd_eq (se_repr (bgl Y.b_repr) (se_ix (se_var 0 rfl (by decide +kernel)) se_int)) (se_repr (bgl Y.b_repr) se_str)) (se_one (se_or (se_cmp opd_isN (se_ix (se_var 0 rfl (by decide +kernel)) se_int) se_non) (se_one (se_def D__law_is_whole (by decide) (by decide +kernel) (sa_cons (se_ix (se_var 0 rfl (by decide +kernel)) se_int) (sa_cons se_int (sa_cons se_int sa_nil))) rfl)))))))))

abbrev s__law_is_table : Stmt := top 29
def n__law_is_table : List Str := ["_law_thing", "_law_one"]
def g__law_is_table : FS := (gSeq (gIf (fOrT (fNotT (fTest (fIsi "tuple" (fV 0)))) (fOrT (fTest (fOp gNe (fCall gLen (fCons (fV 0) fNil)) (fC (.int 3)))) (fNotT (fTest (fDef f__law_is_name (fCons (fOp gIx (fV 0) (fC (.int 0))) fNil)))))) (gRet (fC (.bl false))) gSkip)
  (gSeq (gIf (fOrT (fNotT (fTest (fIsi "tuple" (fOp gIx (fV 0) (fC (.int 1)))))) (fOrT (fNotT (fTest (fChain gLeI gLeI (fC (.int 1)) (fCall gLen (fCons (fOp gIx (fV 0) (fC (.int 1))) fNil)) (fC (.int 6))))) (fTest (fInF true (fRepr (fOp gIx (fV 0) (fC (.int 2)))) (fLst (fCons (fC (.str "'row'")) (fCons (fC (.str "'part'")) fNil))))))) (gRet (fC (.bl false))) gSkip)
  (gSeq (gIf (fTest (fEqN true (fLc (iVal (fOp gIx (fV 0) (fC (.int 1)))) [1] (hName 1) (fNotT (fTest (fDef f__law_is_column (fCons (fV 1) fNil)))) (fV 1)) (fLst fNil))) (gRet (fC (.bl false))) gSkip)
  (gRet (fOp gEq (fLenSet (fLc (iVal (fOp gIx (fV 0) (fC (.int 1)))) [1] (hName 1) fYes (fOp gIx (fV 1) (fC (.int 0))))) (fCall gLen (fCons (fOp gIx (fV 0) (fC (.int 1))) fNil)))))))
def f__law_is_table : FD := defD g__law_is_table 2 1
theorem sc__law_is_table : FnScope n__law_is_table ["_law_thing"] (defScope s__law_is_table) := ⟨rfl, rfl, rfl, by decide +kernel, rfl, by decide +kernel, by decide +kernel⟩
theorem bi__law_is_table {K : PySem.W.Frag} {a : Addr} {fd : FuncData} (F : Fun K "_law_is_table" "_law_is_table" s__law_is_table a fd) : Binds K fd ["_law_thing"] [] := F.binds (ps := ["_law_thing"]) fun _ _ _ _ _ _ us hl => match us, hl with | [_], _ => rfl
theorem ok__law_is_table {T : Txt} (Y : Top T) (D__law_is_column : DefOk T "_law_is_column" 1 2 f__law_is_column) (D__law_is_name : DefOk T "_law_is_name" 1 1 f__law_is_name) {a : Addr} {fd : FuncData} (F : Fun T.K "_law_is_table" "_law_is_table" s__law_is_table a fd) (hx : T.mg "_law_is_table" = some (.ref a)) : DefOk T "_law_is_table" 1 3 f__law_is_table :=
  def_ok (k := 2) (N := n__law_is_table) (g := g__law_is_table) F hx (bi__law_is_table F) sc__law_is_table
    (sss_cons (ss_if (STw.st (stw_or (st_not (st_val (se_isi (T := "tuple") (bgl Y.b_isinstance) (bgl Y.b_tuple) boot_tuple rfl (se_var 0 rfl (by decide +kernel))))) (stw_or (st_cmp opd_ne (se_len (bgl Y.b_len) (se_var 0 rfl (by decide +kernel))) se_int) (stw_or1 (st_not (st_val (se_def D__law_is_name (by decide) (by decide +kernel) (sa_cons (se_ix (se_var 0 rfl (by decide +kernel)) se_int) sa_nil) rfl))))))) (sss_one (ss_ret se_bl)) sss_nil)
    (sss_cons (ss_if (STw.st (stw_or (st_not (st_val (se_isi (T := "tuple") (bgl Y.b_isinstance) (bgl Y.b_tuple) boot_tuple rfl (se_ix (se_var 0 rfl (by decide +kernel)) se_int)))) (stw_or (st_not (st_chain opd_leI opd_leI se_int (se_len (bgl Y.b_len) (se_ix (se_var 0 rfl (by decide +kernel)) se_int)) se_int)) (stw_or1 (st_ninF (se_repr (bgl Y.b_repr) (se_ix (se_var 0 rfl (by decide +kernel)) se_int)) (sf_lst (sa_cons se_str (sa_cons se_str sa_nil)))))))) (sss_one (ss_ret se_bl)) sss_nil)
    (sss_cons (ss_if (st_neN (sf_lc (si_val (se_ix (se_var 0 rfl (by decide +kernel)) se_int)) (sg_name 1 rfl (by decide +kernel)) (sts_one (st_not (st_val (se_def D__law_is_column (by decide) (by decide +kernel) (sa_cons (se_var 1 rfl (by decide +kernel)) sa_nil) rfl)))) (se_var 1 rfl (by decide +kernel)) [("_law_one", 1)] (show blkC n__law_is_table _ _ _ = true by decide +kernel) (by decide)) (sf_lst sa_nil)) (sss_one (ss_ret se_bl)) sss_nil)
    (sss_one (ss_ret (se_cmp opd_eq (se_lenSet (bgl Y.b_len) (bgl Y.b_set) (sf_lc (si_val (se_ix (se_var 0 rfl (by decide +kernel)) se_int)) (sg_name 1 rfl (by decide +kernel)) sts_nil (se_ix (se_var 1 rfl (by decide +kernel)) se_int) [("_law_one", 1)] (show blkC n__law_is_table _ _ _ = true by decide +kernel) (by decide))) (se_len (bgl Y.b_len) (se_ix (se_var 0 rfl (by decide +kernel)) se_int))))))))

abbrev s__law_are_tables : Stmt := top 30
def n__law_are_tables : List Str := ["_law_thing", "_law_one"]
def g__law_are_tables : FS := (gSeq (gIf (fOrT (fNotT (fTest (fIsi "tuple" (fV 0)))) (fNotT (fTest (fChain gLeI gLeI (fC (.int 1)) (fCall gLen (fCons (fV 0) fNil)) (fC (.int 6)))))) (gRet (fC (.bl false))) gSkip)
  (gSeq (gIf (fTest (fEqN true (fLc (iVal (fV 0)) [1] (hName 1) (fNotT (fTest (fDef f__law_is_table (fCons (fV 1) fNil)))) (fV 1)) (fLst fNil))) (gRet (fC (.bl false))) gSkip)
  (gRet (fOp gEq (fLenSet (fLc (iVal (fV 0)) [1] (hName 1) fYes (fOp gIx (fV 1) (fC (.int 0))))) (fCall gLen (fCons (fV 0) fNil))))))
def f__law_are_tables : FD := defD g__law_are_tables 2 1
theorem sc__law_are_tables : FnScope n__law_are_tables ["_law_thing"] (defScope s__law_are_tables) := ⟨rfl, rfl, rfl, by decide +kernel, rfl, by decide +kernel, by decide +kernel⟩
theorem bi__law_are_tables {K : PySem.W.Frag} {a : Addr} {fd : FuncData} (F : Fun K "_law_are_tables" "_law_are_tables" s__law_are_tables a fd) : Binds K fd ["_law_thing"] [] := F.binds (ps := ["_law_thing"]) fun _ _ _ _ _ _ us hl => match us, hl with | [_], _ => rfl
theorem ok__law_are_tables {T : Txt} (Y : Top T) (D__law_is_table : DefOk T "_law_is_table" 1 3 f__law_is_table) {a : Addr} {fd : FuncData} (F : Fun T.K "_law_are_tables" "_law_are_tables" s__law_are_tables a fd) (hx : T.mg "_law_are_tables" = some (.ref a)) : DefOk T "_law_are_tables" 1 4 f__law_are_tables :=
  def_ok (k := 3) (N := n__law_are_tables) (g := g__law_are_tables) F hx (bi__law_are_tables F) sc__law_are_tables
    (sss_cons (ss_if (STw.st (stw_or (st_not (st_val (se_isi (T := "tuple") (bgl Y.b_isinstance) (bgl Y.b_tuple) boot_tuple rfl (se_var 0 rfl (by decide +kernel))))) (stw_or1 (st_not (st_chain opd_leI opd_leI se_int (se_len (bgl Y.b_len) (se_var 0 rfl (by decide +kernel))) se_int))))) (sss_one (ss_ret se_bl)) sss_nil)
    (sss_cons (ss_if (st_neN (sf_lc (si_val (se_var 0 rfl (by decide +kernel))) (sg_name 1 rfl (by decide +kernel)) (sts_one (st_not (st_val (se_def D__law_is_table (by decide) (by decide +kernel) (sa_cons (se_var 1 rfl (by decide +kernel)) sa_nil) rfl)))) (se_var 1 rfl (by decide +kernel)) [("_law_one", 1)] (show blkC n__law_are_tables _ _ _ = true by decide +kernel) (by decide)) (sf_lst sa_nil)) (sss_one (ss_ret se_bl)) sss_nil)
    (sss_one (ss_ret (se_cmp opd_eq (se_lenSet (bgl Y.b_len) (bgl Y.b_set) (sf_lc (si_val (se_var 0 rfl (by decide +kernel))) (sg_name 1 rfl (by decide +kernel)) sts_nil (se_ix (se_var 1 rfl (by decide +kernel)) se_int) [("_law_one", 1)] (show blkC n__law_are_tables _ _ _ = true by decide +kernel) (by decide))) (se_len (bgl Y.b_len) (se_var 0 rfl (by decide +kernel))))))))

abbrev s__law_bent : Stmt := top 31
def n__law_bent : List Str := ["_law_digits", "_law_tables_here", "_law_at", "_law_odd_here", "_law_label", "_law_columns", "_law_rule", "_law_place", "_law_own", "_law_some", "_law_one", "_law_more", "_law_letter"]
def g__law_bent : FS := (gSeq (gPar (fCons (fOp gModI (fOp gIx (fV 0) (fC (.int 0))) (fC (.int 3))) (fCons (fDef f__law_odd (fCons (fOp gIx (fV 0) (fC (.int 1))) fNil)) fNil)) 2 3)
  (gSeq (gAsg (fOp gIx (fV 1) (fV 2)) (hTup 3 (hCons (hName 4) (hCons (hName 5) (hCons (hName 6) hNil)))))
  (gSeq (gSet (fOp gModI (fOp gIx (fV 0) (fC (.int 2))) (fCall gLen (fCons (fV 5) fNil))) 7)
  (gSeq (gSet (fOp gIx (fV 5) (fV 7)) 8)
  (gSeq (gSet (fNote (fLst (fCons (fTup (fCons (fV 3) (fCons (fV 5) (fCons (fV 6) fNil)))) (fCons (fTup (fCons (fV 4) (fCons (fV 3) (fCons (fV 6) fNil)))) (fCons (fTup (fCons (fV 4) (fCons (fV 5) (fCons (fV 3) fNil)))) (fCons (fTup (fCons (fV 4) (fCons (fNote (fListOf (fV 5))) (fCons (fV 6) fNil)))) (fCons (fV 3) fNil))))))) 9)
  (gSeq (gFor (iNew (fLst (fCons (fOp gAdd (fTup (fCons (fV 3) fNil)) (fSl (fV 8) (fSo (fC (.int 1))) fNo)) (fCons (fTup (fCons (fOp gIx (fV 8) (fC (.int 0))) (fCons (fV 3) (fCons (fOp gIx (fV 8) (fC (.int 2))) fNil)))) (fCons (fTup (fCons (fOp gIx (fV 8) (fC (.int 0))) (fCons (fOp gIx (fV 8) (fC (.int 1))) (fCons (fV 3) fNil)))) (fCons (fSl (fV 8) fNo (fSo (fC (.int 2)))) (fCons (fNote (fListOf (fV 8))) (fCons (fV 3) (fCons (fOp gIx (fV 5) (fC (.int 0))) fNil))))))))) (hName 10) (gDrop (fAppend (fV 9) (fTup (fCons (fV 4) (fCons (fOp gAdd (fOp gAdd (fSl (fV 5) fNo (fSo (fV 7))) (fTup (fCons (fV 10) fNil))) (fSl (fV 5) (fSo (fOp gAdd (fV 7) (fC (.int 1)))) fNo)) (fCons (fV 6) fNil)))))))
  (gSeq (gSet (fTup (fLc (iVal (fC (.str "ghijklm"))) [12] (hName 12) fYes (fTup (fCons (fV 12) (fCons (fC (.str "number")) (fCons (fC (.int 9)) fNil)))))) 11)
  (gSeq (gSet (fNote (fCatR (fV 9) (fLst (fCons (fTup (fCons (fV 4) (fCons (fSl (fV 11) fNo (fSo (fOp gModI (fOp gIx (fV 0) (fC (.int 3))) (fC (.int 8))))) (fCons (fV 6) fNil)))) (fCons (fTup (fCons (fV 4) (fCons (fV 5) (fCons (fC (.str "rows")) fNil)))) (fCons (fTup (fCons (fV 4) (fCons (fTup fNil) (fCons (fV 6) fNil)))) (fCons (fOp gIx (fV 1) (fC (.int 0))) fNil))))))) 9)
  (gSeq (gSet (fNote (fCatR (fV 9) (fLst (fCons (fTup (fCons (fV 4) (fCons (fTup (fCons (fTup (fCons (fOp gIx (fV 8) (fC (.int 0))) (fCons (fC (.str "person")) (fCons (fC (.int 0)) fNil)))) fNil)) (fCons (fV 6) fNil)))) (fCons (fTup (fCons (fV 4) (fCons (fTup (fCons (fTup (fCons (fOp gIx (fV 8) (fC (.int 0))) (fCons (fC (.str "number")) (fCons (fC (.int 10)) fNil)))) fNil)) (fCons (fV 6) fNil)))) fNil))))) 9)
  (gRet (fOp gAdd (fOp gAdd (fSl (fV 1) fNo (fSo (fV 2))) (fTup (fCons (fOp gIx (fV 9) (fOp gModI (fOp gIx (fV 0) (fC (.int 4))) (fC (.int 18)))) fNil))) (fSl (fV 1) (fSo (fOp gAdd (fV 2) (fC (.int 1)))) fNo))))))))))))
def f__law_bent : FD := defD g__law_bent 13 2
theorem sc__law_bent : FnScope n__law_bent ["_law_digits", "_law_tables_here"] (defScope s__law_bent) := ⟨rfl, rfl, rfl, by decide +kernel, rfl, by decide +kernel, by decide +kernel⟩
theorem bi__law_bent {K : PySem.W.Frag} {a : Addr} {fd : FuncData} (F : Fun K "_law_bent" "_law_bent" s__law_bent a fd) : Binds K fd ["_law_digits", "_law_tables_here"] [] := F.binds (ps := ["_law_digits", "_law_tables_here"]) fun _ _ _ _ _ _ us hl => match us, hl with | [_, _], _ => rfl
theorem ok__law_bent {T : Txt} (Y : Top T) (D__law_odd : DefOk T "_law_odd" 1 1 f__law_odd) {a : Addr} {fd : FuncData} (F : Fun T.K "_law_bent" "_law_bent" s__law_bent a fd) (hx : T.mg "_law_bent" = some (.ref a)) : DefOk T "_law_bent" 2 2 f__law_bent :=
  def_ok (k := 1) (N := n__law_bent) (g := g__law_bent) F hx (bi__law_bent F) sc__law_bent
    (sss_cons (ss_par 2 3 (by decide) rfl rfl (by decide +kernel) (by decide +kernel) (sa_cons (se_bin opd_modI (se_ix (se_var 0 rfl (by decide +kernel)) se_int) se_int) (sa_cons (se_def D__law_odd (by decide) (by decide +kernel) (sa_cons (se_ix (se_var 0 rfl (by decide +kernel)) se_int) sa_nil) rfl) sa_nil)) (par_ok (by decide +kernel) rfl rfl rfl (by first | exact .inl rfl | exact .inr rfl) (by first | exact .inl rfl | exact .inr rfl)))
    (sss_cons (ss_asg (se_ix (se_var 1 rfl (by decide +kernel)) (se_var 2 rfl (by decide +kernel))) (sg_tup (n := 3) (sgs_cons (sg_name 4 rfl (by decide +kernel)) (sgs_cons (sg_name 5 rfl (by decide +kernel)) (sgs_cons (sg_name 6 rfl (by decide +kernel)) sgs_nil)))))
    (sss_cons (ss_set 7 rfl (by decide +kernel) (se_bin opd_modI (se_ix (se_var 0 rfl (by decide +kernel)) se_int) (se_len (bgl Y.b_len) (se_var 5 rfl (by decide +kernel)))))
    (sss_cons (ss_set 8 rfl (by decide +kernel) (se_ix (se_var 5 rfl (by decide +kernel)) (se_var 7 rfl (by decide +kernel))))
    (sss_cons (ss_set 9 rfl (by decide +kernel) (se_note (sf_lst (sa_cons (se_tup (sa_cons (se_var 3 rfl (by decide +kernel)) (sa_cons (se_var 5 rfl (by decide +kernel)) (sa_cons (se_var 6 rfl (by decide +kernel)) sa_nil)))) (sa_cons (se_tup (sa_cons (se_var 4 rfl (by decide +kernel)) (sa_cons (se_var 3 rfl (by decide +kernel)) (sa_cons (se_var 6 rfl (by decide +kernel)) sa_nil)))) (sa_cons (se_tup (sa_cons (se_var 4 rfl (by decide +kernel)) (sa_cons (se_var 5 rfl (by decide +kernel)) (sa_cons (se_var 3 rfl (by decide +kernel)) sa_nil)))) (sa_cons (se_tup (sa_cons (se_var 4 rfl (by decide +kernel)) (sa_cons (se_note (sf_listOf (bgl Y.b_list) (se_var 5 rfl (by decide +kernel)))) (sa_cons (se_var 6 rfl (by decide +kernel)) sa_nil)))) (sa_cons (se_var 3 rfl (by decide +kernel)) sa_nil))))))))
    (sss_cons (ss_for (si_new (sf_lst (sa_cons (se_bin opd_add (se_tup (sa_cons (se_var 3 rfl (by decide +kernel)) sa_nil)) (se_sl (se_var 8 rfl (by decide +kernel)) (so_some se_int) so_none)) (sa_cons (se_tup (sa_cons (se_ix (se_var 8 rfl (by decide +kernel)) se_int) (sa_cons (se_var 3 rfl (by decide +kernel)) (sa_cons (se_ix (se_var 8 rfl (by decide +kernel)) se_int) sa_nil)))) (sa_cons (se_tup (sa_cons (se_ix (se_var 8 rfl (by decide +kernel)) se_int) (sa_cons (se_ix (se_var 8 rfl (by decide +kernel)) se_int) (sa_cons (se_var 3 rfl (by decide +kernel)) sa_nil)))) (sa_cons (se_sl (se_var 8 rfl (by decide +kernel)) so_none (so_some se_int)) (sa_cons (se_note (sf_listOf (bgl Y.b_list) (se_var 8 rfl (by decide +kernel)))) (sa_cons (se_var 3 rfl (by decide +kernel)) (sa_cons (se_ix (se_var 5 rfl (by decide +kernel)) se_int) sa_nil))))))))) (sg_name 10 rfl (by decide +kernel)) (sss_one (ss_expr (se_append (se_var 9 rfl (by decide +kernel)) (se_tup (sa_cons (se_var 4 rfl (by decide +kernel)) (sa_cons (se_bin opd_add (se_bin opd_add (se_sl (se_var 5 rfl (by decide +kernel)) so_none (so_some (se_var 7 rfl (by decide +kernel)))) (se_tup (sa_cons (se_var 10 rfl (by decide +kernel)) sa_nil))) (se_sl (se_var 5 rfl (by decide +kernel)) (so_some (se_bin opd_add (se_var 7 rfl (by decide +kernel)) se_int)) so_none)) (sa_cons (se_var 6 rfl (by decide +kernel)) sa_nil))))))))
    (sss_cons (ss_set 11 rfl (by decide +kernel) (se_tupF (bgl Y.b_tuple) (sf_lc (si_val se_str) (sg_name 12 rfl (by decide +kernel)) sts_nil (se_tup (sa_cons (se_var 12 rfl (by decide +kernel)) (sa_cons se_str (sa_cons se_int sa_nil)))) [("_law_letter", 12)] (show blkC n__law_bent _ _ _ = true by decide +kernel) (by decide))))
    (sss_cons (ss_set 9 rfl (by decide +kernel) (se_note (sf_catR (se_var 9 rfl (by decide +kernel)) (slo_new (sf_lst (sa_cons (se_tup (sa_cons (se_var 4 rfl (by decide +kernel)) (sa_cons (se_sl (se_var 11 rfl (by decide +kernel)) so_none (so_some (se_bin opd_modI (se_ix (se_var 0 rfl (by decide +kernel)) se_int) se_int))) (sa_cons (se_var 6 rfl (by decide +kernel)) sa_nil)))) (sa_cons (se_tup (sa_cons (se_var 4 rfl (by decide +kernel)) (sa_cons (se_var 5 rfl (by decide +kernel)) (sa_cons se_str sa_nil)))) (sa_cons (se_tup (sa_cons (se_var 4 rfl (by decide +kernel)) (sa_cons (se_tup sa_nil) (sa_cons (se_var 6 rfl (by decide +kernel)) sa_nil)))) (sa_cons (se_ix (se_var 1 rfl (by decide +kernel)) se_int) sa_nil)))))))))
    (sss_cons (ss_set 9 rfl (by decide +kernel) (se_note (sf_catR (se_var 9 rfl (by decide +kernel)) (slo_new (sf_lst (sa_cons (se_tup (sa_cons (se_var 4 rfl (by decide +kernel)) (sa_cons (se_tup (sa_cons (se_tup (sa_cons (se_ix (se_var 8 rfl (by decide +kernel)) se_int) (sa_cons se_str (sa_cons se_int sa_nil)))) sa_nil)) (sa_cons (se_var 6 rfl (by decide +kernel)) sa_nil)))) (sa_cons (se_tup (sa_cons (se_var 4 rfl (by decide +kernel)) (sa_cons (se_tup (sa_cons (se_tup (sa_cons (se_ix (se_var 8 rfl (by decide +kernel)) se_int) (sa_cons se_str (sa_cons se_int sa_nil)))) sa_nil)) (sa_cons (se_var 6 rfl (by decide +kernel)) sa_nil)))) sa_nil)))))))
    (sss_one (ss_ret (se_bin opd_add (se_bin opd_add (se_sl (se_var 1 rfl (by decide +kernel)) so_none (so_some (se_var 2 rfl (by decide +kernel)))) (se_tup (sa_cons (se_ix (se_var 9 rfl (by decide +kernel)) (se_bin opd_modI (se_ix (se_var 0 rfl (by decide +kernel)) se_int) se_int)) sa_nil))) (se_sl (se_var 1 rfl (by decide +kernel)) (so_some (se_bin opd_add (se_var 2 rfl (by decide +kernel)) se_int)) so_none)))))))))))))

abbrev s_law : Stmt := top 32
def n_law : List Str := ["_law_script", "_law_k", "_law_cell", "_law_digits", "_law_tables_here", "_law_names", "_law_thing", "_law_many", "_law_things", "_law_kept", "_law_due", "_law_letter", "_law_turn", "_law_at"]
def g_law : FS := (gSeq (gFor (iEnumF (fCatR (fSl (fV 0) fNo (fSo (fC (.int 10)))) (fRep (fLst (fCons (fC (.int 7)) fNil)) (fCall gInt (fCons (fEqR (fV 0) (fLst fNil)) fNil))))) (hTup 2 (hCons (hName 1) (hCons (hName 2) hNil))) (gSeq (gSet (fDef f__law_numbers (fCons (fV 2) (fCons (fOp gAdd (fC (.int 100)) (fV 1)) (fCons (fNote (fRep (fLst (fCons (fC (.int 420)) fNil)) (fC (.int 60)))) fNil)))) 3)
  (gSeq (gSet (fDef f__law_tables (fCons (fV 3) fNil)) 4)
  (gSeq (gSet (fNote (fCat (fLst (fCons (fC (.str "a")) (fCons (fOp gMulA (fC (.str "ab")) (fC (.int 4))) (fCons (fOp gAdd (fOp gMulA (fC (.str "ab")) (fC (.int 4))) (fC (.str "c"))) (fCons (fC (.str "A")) (fCons (fC (.str "a1")) (fCons (fC (.str "a b")) (fCons (fC (.str "")) (fCons (fC (.str "a\n")) fNil))))))))) (fItemsL (fDef f__law_persons (fCons (fSl (fV 3) (fSo (fC (.int 6))) fNo) fNil))))) 5)
  (gSeq (gFor (iNew (fCat (fCatR (fV 5) (fLc (iRange1 (fC (.int 16))) [13] (hName 13) fYes (fDef f__law_odd (fCons (fV 13) fNil)))) (fLst (fCons (fC (.int 9)) (fCons (fC (.int 10)) (fCons (fC (.int 999)) (fCons (fC (.int 1000)) (fCons (fNeg (fC (.int 1))) fNil)))))))) (hName 6) (gSeq (gSet (fNote (fLst (fCons (fDef f__law_is_name (fCons (fV 6) fNil)) (fCons (fDef f__law_is_whole (fCons (fV 6) (fCons (fC (.int 0)) (fCons (fC (.int 9)) fNil)))) (fCons (fDef f__law_is_whole (fCons (fV 6) (fCons (fC (.int 0)) (fCons (fC (.int 999)) fNil)))) fNil))))) 10)
  (gIf (fTest (fOp gNe (fRepr (fNote (fLst (fCons (fDef f_is_name (fCons (fV 6) fNil)) (fCons (fDef f_is_worth (fCons (fV 6) fNil)) (fCons (fDef f_is_moment (fCons (fV 6) fNil)) fNil)))))) (fRepr (fV 10)))) (gRet (fC (.bl false))) gSkip)))
  (gSeq (gSet (fTup (fLc (iVal (fC (.str "cdefghi"))) [11] (hName 11) fYes (fTup (fCons (fV 11) (fCons (fTup (fCons (fTup (fCons (fC (.str "a")) (fCons (fC (.str "number")) (fCons (fC .non) fNil)))) fNil)) (fCons (fC (.str "row")) fNil)))))) 7)
  (gSeq (gSet (fNote (fLst (fCons (fV 4) (fCons (fNote (fListOf (fV 4))) (fCons (fTup fNil) (fCons (fSl (fV 7) fNo (fSo (fC (.int 6)))) (fCons (fV 7) (fCons (fSl (fV 4) fNo (fSo (fC (.int 1)))) (fCons (fOp gAdd (fV 4) (fSl (fV 4) fNo (fSo (fC (.int 1))))) (fCons (fC .non) (fCons (fC .emp) (fCons (fC (.str "row")) (fCons (fC (.int 5)) fNil))))))))))))) 8)
  (gSeq (gSet (fNote (fCatR (fV 8) (fLc (iRange1 (fC (.int 9))) [12] (hName 12) fYes (fDef f__law_bent (fCons (fSl (fV 3) (fSo (fOp gAdd (fC (.int 10)) (fOp gMulA (fC (.int 5)) (fV 12)))) fNo) (fCons (fV 4) fNil)))))) 8)
  (gSeq (gSet (fRepr (fV 8)) 9)
  (gSeq (gFor (iVal (fV 8)) (hName 6) (gIf (fTest (fOp gNe (fRepr (fDef f_are_tables (fCons (fV 6) fNil))) (fRepr (fDef f__law_are_tables (fCons (fV 6) fNil))))) (gRet (fC (.bl false))) gSkip))
  (gIf (fTest (fOp gNe (fRepr (fV 8)) (fV 9))) (gRet (fC (.bl false))) gSkip)))))))))))
  (gRet (fC (.bl true))))
def f_law : FD := defD g_law 14 1
theorem sc_law : FnScope n_law ["_law_script"] (defScope s_law) := ⟨rfl, rfl, rfl, by decide +kernel, rfl, by decide +kernel, by decide +kernel⟩
theorem bi_law {K : PySem.W.Frag} {a : Addr} {fd : FuncData} (F : Fun K "law" "law" s_law a fd) : Binds K fd ["_law_script"] [] := F.binds (ps := ["_law_script"]) fun _ _ _ _ _ _ us hl => match us, hl with | [_], _ => rfl
theorem fn_law {T : Txt} (Y : Top T) (D_are_tables : DefOk T "are_tables" 1 7 f_are_tables) (D__law_are_tables : DefOk T "_law_are_tables" 1 4 f__law_are_tables) (D__law_bent : DefOk T "_law_bent" 2 2 f__law_bent) (D__law_odd : DefOk T "_law_odd" 1 1 f__law_odd) (D_is_moment : DefOk T "is_moment" 1 3 f_is_moment) (D_is_worth : DefOk T "is_worth" 1 3 f_is_worth) (D_is_name : DefOk T "is_name" 1 1 f_is_name) (D__law_is_whole : DefOk T "_law_is_whole" 3 1 f__law_is_whole) (D__law_is_name : DefOk T "_law_is_name" 1 1 f__law_is_name) (D__law_persons : DefOk T "_law_persons" 1 1 f__law_persons) (D__law_tables : DefOk T "_law_tables" 1 1 f__law_tables) (D__law_numbers : DefOk T "_law_numbers" 3 1 f__law_numbers) {a : Addr} {fd : FuncData} (F : Fun T.K "law" "law" s_law a fd) : FnG T 8 a fd ["_law_script"] (spD T.K 1 f_law) :=
  def_fn (k := 7) (N := n_law) (g := g_law) F sc_law
    (sss_cons (ss_for (si_enumF (bgl Y.b_enumerate) (sf_catR (se_sl (se_var 0 rfl (by decide +kernel)) so_none (so_some se_int)) (slo_new (sf_rep (sf_lst (sa_cons se_int sa_nil)) (se_int1 (bgl Y.b_int) (se_eqR (se_var 0 rfl (by decide +kernel)) (sf_lst sa_nil))))))) (sg_tup (n := 2) (sgs_cons (sg_name 1 rfl (by decide +kernel)) (sgs_cons (sg_name 2 rfl (by decide +kernel)) sgs_nil))) (sss_cons (ss_set 3 rfl (by decide +kernel) (se_def D__law_numbers (by decide) (by decide +kernel) (sa_cons (se_var 2 rfl (by decide +kernel)) (sa_cons (se_bin opd_add se_int (se_var 1 rfl (by decide +kernel))) (sa_cons (se_note (sf_rep (sf_lst (sa_cons se_int sa_nil)) se_int)) sa_nil))) rfl))
    (sss_cons (ss_set 4 rfl (by decide +kernel) (se_def D__law_tables (by decide) (by decide +kernel) (sa_cons (se_var 3 rfl (by decide +kernel)) sa_nil) rfl))
    (sss_cons (ss_set 5 rfl (by decide +kernel) (se_note (sf_cat (sf_lst (sa_cons se_str (sa_cons (se_bin opd_mulA se_str se_int) (sa_cons (se_bin opd_add (se_bin opd_mulA se_str se_int) se_str) (sa_cons se_str (sa_cons se_str (sa_cons se_str (sa_cons se_str (sa_cons se_str sa_nil))))))))) (slo_ref (se_def D__law_persons (by decide) (by decide +kernel) (sa_cons (se_sl (se_var 3 rfl (by decide +kernel)) (so_some se_int) so_none) sa_nil) rfl)))))
    (sss_cons (ss_for (si_new (sf_cat (sf_catR (se_var 5 rfl (by decide +kernel)) (slo_new (sf_lc (si_range1 (bgl Y.b_range) se_int) (sg_name 13 rfl (by decide +kernel)) sts_nil (se_def D__law_odd (by decide) (by decide +kernel) (sa_cons (se_var 13 rfl (by decide +kernel)) sa_nil) rfl) [("_law_at", 13)] (show blkC n_law _ _ _ = true by decide +kernel) (by decide)))) (slo_new (sf_lst (sa_cons se_int (sa_cons se_int (sa_cons se_int (sa_cons se_int (sa_cons (se_neg se_int) sa_nil))))))))) (sg_name 6 rfl (by decide +kernel)) (sss_cons (ss_set 10 rfl (by decide +kernel) (se_note (sf_lst (sa_cons (se_def D__law_is_name (by decide) (by decide +kernel) (sa_cons (se_var 6 rfl (by decide +kernel)) sa_nil) rfl) (sa_cons (se_def D__law_is_whole (by decide) (by decide +kernel) (sa_cons (se_var 6 rfl (by decide +kernel)) (sa_cons se_int (sa_cons se_int sa_nil))) rfl) (sa_cons (se_def D__law_is_whole (by decide) (by decide +kernel) (sa_cons (se_var 6 rfl (by decide +kernel)) (sa_cons se_int (sa_cons se_int sa_nil))) rfl) sa_nil))))))
    (sss_one (ss_if (st_cmp opd_ne (se_repr (bgl Y.b_repr) (se_note (sf_lst (sa_cons (se_def D_is_name (by decide) (by decide +kernel) (sa_cons (se_var 6 rfl (by decide +kernel)) sa_nil) rfl) (sa_cons (se_def D_is_worth (by decide) (by decide +kernel) (sa_cons (se_var 6 rfl (by decide +kernel)) sa_nil) rfl) (sa_cons (se_def D_is_moment (by decide) (by decide +kernel) (sa_cons (se_var 6 rfl (by decide +kernel)) sa_nil) rfl) sa_nil)))))) (se_repr (bgl Y.b_repr) (se_var 10 rfl (by decide +kernel)))) (sss_one (ss_ret se_bl)) sss_nil))))
    (sss_cons (ss_set 7 rfl (by decide +kernel) (se_tupF (bgl Y.b_tuple) (sf_lc (si_val se_str) (sg_name 11 rfl (by decide +kernel)) sts_nil (se_tup (sa_cons (se_var 11 rfl (by decide +kernel)) (sa_cons (se_tup (sa_cons (se_tup (sa_cons se_str (sa_cons se_str (sa_cons se_non sa_nil)))) sa_nil)) (sa_cons se_str sa_nil)))) [("_law_letter", 11)] (show blkC n_law _ _ _ = true by decide +kernel) (by decide))))
    (sss_cons (ss_set 8 rfl (by decide +kernel) (se_note (sf_lst (sa_cons (se_var 4 rfl (by decide +kernel)) (sa_cons (se_note (sf_listOf (bgl Y.b_list) (se_var 4 rfl (by decide +kernel)))) (sa_cons (se_tup sa_nil) (sa_cons (se_sl (se_var 7 rfl (by decide +kernel)) so_none (so_some se_int)) (sa_cons (se_var 7 rfl (by decide +kernel)) (sa_cons (se_sl (se_var 4 rfl (by decide +kernel)) so_none (so_some se_int)) (sa_cons (se_bin opd_add (se_var 4 rfl (by decide +kernel)) (se_sl (se_var 4 rfl (by decide +kernel)) so_none (so_some se_int))) (sa_cons se_non (sa_cons se_emp (sa_cons se_str (sa_cons se_int sa_nil))))))))))))))
    (sss_cons (ss_set 8 rfl (by decide +kernel) (se_note (sf_catR (se_var 8 rfl (by decide +kernel)) (slo_new (sf_lc (si_range1 (bgl Y.b_range) se_int) (sg_name 12 rfl (by decide +kernel)) sts_nil (se_def D__law_bent (by decide) (by decide +kernel) (sa_cons (se_sl (se_var 3 rfl (by decide +kernel)) (so_some (se_bin opd_add se_int (se_bin opd_mulA se_int (se_var 12 rfl (by decide +kernel))))) so_none) (sa_cons (se_var 4 rfl (by decide +kernel)) sa_nil)) rfl) [("_law_turn", 12)] (show blkC n_law _ _ _ = true by decide +kernel) (by decide))))))
    (sss_cons (ss_set 9 rfl (by decide +kernel) (se_repr (bgl Y.b_repr) (se_var 8 rfl (by decide +kernel))))
    (sss_cons (ss_for (si_val (se_var 8 rfl (by decide +kernel))) (sg_name 6 rfl (by decide +kernel)) (sss_one (ss_if (st_cmp opd_ne (se_repr (bgl Y.b_repr) (se_def D_are_tables (by decide) (by decide +kernel) (sa_cons (se_var 6 rfl (by decide +kernel)) sa_nil) rfl)) (se_repr (bgl Y.b_repr) (se_def D__law_are_tables (by decide) (by decide +kernel) (sa_cons (se_var 6 rfl (by decide +kernel)) sa_nil) rfl))) (sss_one (ss_ret se_bl)) sss_nil)))
    (sss_one (ss_if (st_cmp opd_ne (se_repr (bgl Y.b_repr) (se_var 8 rfl (by decide +kernel))) (se_var 9 rfl (by decide +kernel))) (sss_one (ss_ret se_bl)) sss_nil))))))))))))
    (sss_one (ss_ret se_bl)))

theorem all_mk {P : Program} {w : World} {K : PySem.W.Frag} {h : Heap} {mg : Str → Option Value} {fa : Addr} (X : K.In h) (G : h.Ns mainGlobals mg) (hfa : mg "law" = some (.ref fa))
    {oc0 kV0 dc0 pm0 cd0 ct0 : Value} {od0 an0 : Option Addr} {sl0 : Array (Option Value)} {f0 : Addr}
    {oc1 kV1 dc1 pm1 cd1 ct1 : Value} {od1 an1 : Option Addr} {sl1 : Array (Option Value)} {f1 : Addr}
    {oc2 kV2 dc2 pm2 cd2 ct2 : Value} {od2 an2 : Option Addr} {sl2 : Array (Option Value)} {f2 : Addr}
    {oc3 kV3 dc3 pm3 cd3 ct3 : Value} {od3 an3 : Option Addr} {sl3 : Array (Option Value)} {f3 : Addr}
    {oc4 kV4 dc4 pm4 cd4 ct4 : Value} {od4 an4 : Option Addr} {sl4 : Array (Option Value)} {f4 : Addr}
    {oc5 kV5 dc5 pm5 cd5 ct5 : Value} {od5 an5 : Option Addr} {sl5 : Array (Option Value)} {f5 : Addr}
    {oc6 kV6 dc6 pm6 cd6 ct6 : Value} {od6 an6 : Option Addr} {sl6 : Array (Option Value)} {f6 : Addr}
    {oc7 kV7 dc7 pm7 cd7 ct7 : Value} {od7 an7 : Option Addr} {sl7 : Array (Option Value)} {f7 : Addr}
    {oc8 kV8 dc8 pm8 cd8 ct8 : Value} {od8 an8 : Option Addr} {sl8 : Array (Option Value)} {f8 : Addr}
    {oc9 kV9 dc9 pm9 cd9 ct9 : Value} {od9 an9 : Option Addr} {sl9 : Array (Option Value)} {f9 : Addr}
    {oc10 kV10 dc10 pm10 cd10 ct10 : Value} {od10 an10 : Option Addr} {sl10 : Array (Option Value)} {f10 : Addr}
    {oc11 kV11 dc11 pm11 cd11 ct11 : Value} {od11 an11 : Option Addr} {sl11 : Array (Option Value)} {f11 : Addr}
    {oc12 kV12 dc12 pm12 cd12 ct12 : Value} {od12 an12 : Option Addr} {sl12 : Array (Option Value)} {f12 : Addr}
    {oc13 kV13 dc13 pm13 cd13 ct13 : Value} {od13 an13 : Option Addr} {sl13 : Array (Option Value)} {f13 : Addr}
    {oc14 kV14 dc14 pm14 cd14 ct14 : Value} {od14 an14 : Option Addr} {sl14 : Array (Option Value)} {f14 : Addr}
    {oc15 kV15 dc15 pm15 cd15 ct15 : Value} {od15 an15 : Option Addr} {sl15 : Array (Option Value)} {f15 : Addr}
    {oc16 kV16 dc16 pm16 cd16 ct16 : Value} {od16 an16 : Option Addr} {sl16 : Array (Option Value)} {f16 : Addr}
    {oc17 kV17 dc17 pm17 cd17 ct17 : Value} {od17 an17 : Option Addr} {sl17 : Array (Option Value)} {f17 : Addr}
    {oc18 kV18 dc18 pm18 cd18 ct18 : Value} {od18 an18 : Option Addr} {sl18 : Array (Option Value)} {f18 : Addr}
    {oc19 kV19 dc19 pm19 cd19 ct19 : Value} {od19 an19 : Option Addr} {sl19 : Array (Option Value)} {f19 : Addr}
    {oc20 kV20 dc20 pm20 cd20 ct20 : Value} {od20 an20 : Option Addr} {sl20 : Array (Option Value)} {f20 : Addr}
    {oc21 kV21 dc21 pm21 cd21 ct21 : Value} {od21 an21 : Option Addr} {sl21 : Array (Option Value)} {f21 : Addr}
    {q_KINDS : Addr} {sl_KINDS : Array (Option Value)} {m_KINDS : Nat} {t_KINDS_0 t_KINDS_1 : Tok}
    {t_LAST_MOMENT : Tok}
    {t_LAST_WORTH : Tok}
    {t_LETTERS : Tok}
    {t_LONGEST_NAME : Tok}
    {t_MOST_COLUMNS : Tok}
    {t_MOST_TABLES : Tok}
    {q_RULES : Addr} {sl_RULES : Array (Option Value)} {m_RULES : Nat} {t_RULES_0 t_RULES_1 : Tok}
    (a0 : PySem.W.nsIn K mainGlobals "is_whole" = some (some (.ref f0))) (l0 : K.lookup f0 = some ⟨oc0, od0, .func (PySem.W.fnOf "is_whole" "is_whole" (defArgs s_is_whole) (defBody s_is_whole) (defScope s_is_whole) .none kV0 dc0 pm0 an0 cd0 ct0), sl0⟩) (c0 : PySem.W.codeIn K cd0 "is_whole" = true) (k0 : PySem.W.keepIn K (.ref f0) = true)
    (a1 : PySem.W.nsIn K mainGlobals "is_whole_within" = some (some (.ref f1))) (l1 : K.lookup f1 = some ⟨oc1, od1, .func (PySem.W.fnOf "is_whole_within" "is_whole_within" (defArgs s_is_whole_within) (defBody s_is_whole_within) (defScope s_is_whole_within) .none kV1 dc1 pm1 an1 cd1 ct1), sl1⟩) (c1 : PySem.W.codeIn K cd1 "is_whole_within" = true) (k1 : PySem.W.keepIn K (.ref f1) = true)
    (a2 : PySem.W.nsIn K mainGlobals "is_name" = some (some (.ref f2))) (l2 : K.lookup f2 = some ⟨oc2, od2, .func (PySem.W.fnOf "is_name" "is_name" (defArgs s_is_name) (defBody s_is_name) (defScope s_is_name) .none kV2 dc2 pm2 an2 cd2 ct2), sl2⟩) (c2 : PySem.W.codeIn K cd2 "is_name" = true) (k2 : PySem.W.keepIn K (.ref f2) = true)
    (a3 : PySem.W.nsIn K mainGlobals "is_worth" = some (some (.ref f3))) (l3 : K.lookup f3 = some ⟨oc3, od3, .func (PySem.W.fnOf "is_worth" "is_worth" (defArgs s_is_worth) (defBody s_is_worth) (defScope s_is_worth) .none kV3 dc3 pm3 an3 cd3 ct3), sl3⟩) (c3 : PySem.W.codeIn K cd3 "is_worth" = true) (k3 : PySem.W.keepIn K (.ref f3) = true)
    (a4 : PySem.W.nsIn K mainGlobals "is_moment" = some (some (.ref f4))) (l4 : K.lookup f4 = some ⟨oc4, od4, .func (PySem.W.fnOf "is_moment" "is_moment" (defArgs s_is_moment) (defBody s_is_moment) (defScope s_is_moment) .none kV4 dc4 pm4 an4 cd4 ct4), sl4⟩) (c4 : PySem.W.codeIn K cd4 "is_moment" = true) (k4 : PySem.W.keepIn K (.ref f4) = true)
    (a5 : PySem.W.nsIn K mainGlobals "is_one_of" = some (some (.ref f5))) (l5 : K.lookup f5 = some ⟨oc5, od5, .func (PySem.W.fnOf "is_one_of" "is_one_of" (defArgs s_is_one_of) (defBody s_is_one_of) (defScope s_is_one_of) .none kV5 dc5 pm5 an5 cd5 ct5), sl5⟩) (c5 : PySem.W.codeIn K cd5 "is_one_of" = true) (k5 : PySem.W.keepIn K (.ref f5) = true)
    (a6 : PySem.W.nsIn K mainGlobals "are_unlike" = some (some (.ref f6))) (l6 : K.lookup f6 = some ⟨oc6, od6, .func (PySem.W.fnOf "are_unlike" "are_unlike" (defArgs s_are_unlike) (defBody s_are_unlike) (defScope s_are_unlike) .none kV6 dc6 pm6 an6 cd6 ct6), sl6⟩) (c6 : PySem.W.codeIn K cd6 "are_unlike" = true) (k6 : PySem.W.keepIn K (.ref f6) = true)
    (a7 : PySem.W.nsIn K mainGlobals "is_column" = some (some (.ref f7))) (l7 : K.lookup f7 = some ⟨oc7, od7, .func (PySem.W.fnOf "is_column" "is_column" (defArgs s_is_column) (defBody s_is_column) (defScope s_is_column) .none kV7 dc7 pm7 an7 cd7 ct7), sl7⟩) (c7 : PySem.W.codeIn K cd7 "is_column" = true) (k7 : PySem.W.keepIn K (.ref f7) = true)
    (a8 : PySem.W.nsIn K mainGlobals "are_columns" = some (some (.ref f8))) (l8 : K.lookup f8 = some ⟨oc8, od8, .func (PySem.W.fnOf "are_columns" "are_columns" (defArgs s_are_columns) (defBody s_are_columns) (defScope s_are_columns) .none kV8 dc8 pm8 an8 cd8 ct8), sl8⟩) (c8 : PySem.W.codeIn K cd8 "are_columns" = true) (k8 : PySem.W.keepIn K (.ref f8) = true)
    (a9 : PySem.W.nsIn K mainGlobals "is_table" = some (some (.ref f9))) (l9 : K.lookup f9 = some ⟨oc9, od9, .func (PySem.W.fnOf "is_table" "is_table" (defArgs s_is_table) (defBody s_is_table) (defScope s_is_table) .none kV9 dc9 pm9 an9 cd9 ct9), sl9⟩) (c9 : PySem.W.codeIn K cd9 "is_table" = true) (k9 : PySem.W.keepIn K (.ref f9) = true)
    (a10 : PySem.W.nsIn K mainGlobals "are_tables" = some (some (.ref f10))) (l10 : K.lookup f10 = some ⟨oc10, od10, .func (PySem.W.fnOf "are_tables" "are_tables" (defArgs s_are_tables) (defBody s_are_tables) (defScope s_are_tables) .none kV10 dc10 pm10 an10 cd10 ct10), sl10⟩) (c10 : PySem.W.codeIn K cd10 "are_tables" = true) (k10 : PySem.W.keepIn K (.ref f10) = true)
    (a11 : PySem.W.nsIn K mainGlobals "_law_numbers" = some (some (.ref f11))) (l11 : K.lookup f11 = some ⟨oc11, od11, .func (PySem.W.fnOf "_law_numbers" "_law_numbers" (defArgs s__law_numbers) (defBody s__law_numbers) (defScope s__law_numbers) .none kV11 dc11 pm11 an11 cd11 ct11), sl11⟩) (c11 : PySem.W.codeIn K cd11 "_law_numbers" = true) (k11 : PySem.W.keepIn K (.ref f11) = true)
    (a12 : PySem.W.nsIn K mainGlobals "_law_persons" = some (some (.ref f12))) (l12 : K.lookup f12 = some ⟨oc12, od12, .func (PySem.W.fnOf "_law_persons" "_law_persons" (defArgs s__law_persons) (defBody s__law_persons) (defScope s__law_persons) .none kV12 dc12 pm12 an12 cd12 ct12), sl12⟩) (c12 : PySem.W.codeIn K cd12 "_law_persons" = true) (k12 : PySem.W.keepIn K (.ref f12) = true)
    (a13 : PySem.W.nsIn K mainGlobals "_law_tables" = some (some (.ref f13))) (l13 : K.lookup f13 = some ⟨oc13, od13, .func (PySem.W.fnOf "_law_tables" "_law_tables" (defArgs s__law_tables) (defBody s__law_tables) (defScope s__law_tables) .none kV13 dc13 pm13 an13 cd13 ct13), sl13⟩) (c13 : PySem.W.codeIn K cd13 "_law_tables" = true) (k13 : PySem.W.keepIn K (.ref f13) = true)
    (a14 : PySem.W.nsIn K mainGlobals "_law_odd" = some (some (.ref f14))) (l14 : K.lookup f14 = some ⟨oc14, od14, .func (PySem.W.fnOf "_law_odd" "_law_odd" (defArgs s__law_odd) (defBody s__law_odd) (defScope s__law_odd) .none kV14 dc14 pm14 an14 cd14 ct14), sl14⟩) (c14 : PySem.W.codeIn K cd14 "_law_odd" = true) (k14 : PySem.W.keepIn K (.ref f14) = true)
    (a15 : PySem.W.nsIn K mainGlobals "_law_is_name" = some (some (.ref f15))) (l15 : K.lookup f15 = some ⟨oc15, od15, .func (PySem.W.fnOf "_law_is_name" "_law_is_name" (defArgs s__law_is_name) (defBody s__law_is_name) (defScope s__law_is_name) .none kV15 dc15 pm15 an15 cd15 ct15), sl15⟩) (c15 : PySem.W.codeIn K cd15 "_law_is_name" = true) (k15 : PySem.W.keepIn K (.ref f15) = true)
    (a16 : PySem.W.nsIn K mainGlobals "_law_is_whole" = some (some (.ref f16))) (l16 : K.lookup f16 = some ⟨oc16, od16, .func (PySem.W.fnOf "_law_is_whole" "_law_is_whole" (defArgs s__law_is_whole) (defBody s__law_is_whole) (defScope s__law_is_whole) .none kV16 dc16 pm16 an16 cd16 ct16), sl16⟩) (c16 : PySem.W.codeIn K cd16 "_law_is_whole" = true) (k16 : PySem.W.keepIn K (.ref f16) = true)
    (a17 : PySem.W.nsIn K mainGlobals "_law_is_column" = some (some (.ref f17))) (l17 : K.lookup f17 = some ⟨oc17, od17, .func (PySem.W.fnOf "_law_is_column" "_law_is_column" (defArgs s__law_is_column) (defBody s__law_is_column) (defScope s__law_is_column) .none kV17 dc17 pm17 an17 cd17 ct17), sl17⟩) (c17 : PySem.W.codeIn K cd17 "_law_is_column" = true) (k17 : PySem.W.keepIn K (.ref f17) = true)
    (a18 : PySem.W.nsIn K mainGlobals "_law_is_table" = some (some (.ref f18))) (l18 : K.lookup f18 = some ⟨oc18, od18, .func (PySem.W.fnOf "_law_is_table" "_law_is_table" (defArgs s__law_is_table) (defBody s__law_is_table) (defScope s__law_is_table) .none kV18 dc18 pm18 an18 cd18 ct18), sl18⟩) (c18 : PySem.W.codeIn K cd18 "_law_is_table" = true) (k18 : PySem.W.keepIn K (.ref f18) = true)
    (a19 : PySem.W.nsIn K mainGlobals "_law_are_tables" = some (some (.ref f19))) (l19 : K.lookup f19 = some ⟨oc19, od19, .func (PySem.W.fnOf "_law_are_tables" "_law_are_tables" (defArgs s__law_are_tables) (defBody s__law_are_tables) (defScope s__law_are_tables) .none kV19 dc19 pm19 an19 cd19 ct19), sl19⟩) (c19 : PySem.W.codeIn K cd19 "_law_are_tables" = true) (k19 : PySem.W.keepIn K (.ref f19) = true)
    (a20 : PySem.W.nsIn K mainGlobals "_law_bent" = some (some (.ref f20))) (l20 : K.lookup f20 = some ⟨oc20, od20, .func (PySem.W.fnOf "_law_bent" "_law_bent" (defArgs s__law_bent) (defBody s__law_bent) (defScope s__law_bent) .none kV20 dc20 pm20 an20 cd20 ct20), sl20⟩) (c20 : PySem.W.codeIn K cd20 "_law_bent" = true) (k20 : PySem.W.keepIn K (.ref f20) = true)
    (a21 : PySem.W.nsIn K mainGlobals "law" = some (some (.ref f21))) (l21 : K.lookup f21 = some ⟨oc21, od21, .func (PySem.W.fnOf "law" "law" (defArgs s_law) (defBody s_law) (defScope s_law) .none kV21 dc21 pm21 an21 cd21 ct21), sl21⟩) (c21 : PySem.W.codeIn K cd21 "law" = true) (k21 : PySem.W.keepIn K (.ref f21) = true)
    (z_all : PySem.W.nsIn K mainGlobals "all" = some none)
    (z_bool : PySem.W.nsIn K mainGlobals "bool" = some none)
    (z_enumerate : PySem.W.nsIn K mainGlobals "enumerate" = some none)
    (z_int : PySem.W.nsIn K mainGlobals "int" = some none)
    (z_isinstance : PySem.W.nsIn K mainGlobals "isinstance" = some none)
    (z_len : PySem.W.nsIn K mainGlobals "len" = some none)
    (z_list : PySem.W.nsIn K mainGlobals "list" = some none)
    (z_max : PySem.W.nsIn K mainGlobals "max" = some none)
    (z_range : PySem.W.nsIn K mainGlobals "range" = some none)
    (z_repr : PySem.W.nsIn K mainGlobals "repr" = some none)
    (z_set : PySem.W.nsIn K mainGlobals "set" = some none)
    (z_str : PySem.W.nsIn K mainGlobals "str" = some none)
    (z_tuple : PySem.W.nsIn K mainGlobals "tuple" = some none)
    (y_KINDS : PySem.W.nsIn K mainGlobals "KINDS" = some (some (.ref q_KINDS))) (x_KINDS : K.lookup q_KINDS = some ⟨.type "tuple", none, .seq #[(.str "person" t_KINDS_0), (.str "number" t_KINDS_1)] m_KINDS, sl_KINDS⟩)
    (y_LAST_MOMENT : PySem.W.nsIn K mainGlobals "LAST_MOMENT" = some (some (.int 999 t_LAST_MOMENT)))
    (y_LAST_WORTH : PySem.W.nsIn K mainGlobals "LAST_WORTH" = some (some (.int 9 t_LAST_WORTH)))
    (y_LETTERS : PySem.W.nsIn K mainGlobals "LETTERS" = some (some (.str "abcdefghijklmnopqrstuvwxyz" t_LETTERS)))
    (y_LONGEST_NAME : PySem.W.nsIn K mainGlobals "LONGEST_NAME" = some (some (.int 8 t_LONGEST_NAME)))
    (y_MOST_COLUMNS : PySem.W.nsIn K mainGlobals "MOST_COLUMNS" = some (some (.int 6 t_MOST_COLUMNS)))
    (y_MOST_TABLES : PySem.W.nsIn K mainGlobals "MOST_TABLES" = some (some (.int 6 t_MOST_TABLES)))
    (y_RULES : PySem.W.nsIn K mainGlobals "RULES" = some (some (.ref q_RULES))) (x_RULES : K.lookup q_RULES = some ⟨.type "tuple", none, .seq #[(.str "row" t_RULES_0), (.str "part" t_RULES_1)] m_RULES, sl_RULES⟩)
    : ∃ fd : FuncData, (∀ (s : Shared) (u : Value), BindsTo s fd ⟨[u], []⟩ [("_law_script", u)]) ∧ ∀ base : Heap, K.In base → base.Ns mainGlobals mg → FnG ⟨K, mg, P, w, base⟩ 8 fa fd ["_law_script"] (spD K 1 f_law) := by
  have e := hfa.symm.trans (PySem.W.mg_of X G a21)
  cases e
  have F0 := fun_mk (st := s_is_whole) l0 c0 k0
  have F1 := fun_mk (st := s_is_whole_within) l1 c1 k1
  have F2 := fun_mk (st := s_is_name) l2 c2 k2
  have F3 := fun_mk (st := s_is_worth) l3 c3 k3
  have F4 := fun_mk (st := s_is_moment) l4 c4 k4
  have F5 := fun_mk (st := s_is_one_of) l5 c5 k5
  have F6 := fun_mk (st := s_are_unlike) l6 c6 k6
  have F7 := fun_mk (st := s_is_column) l7 c7 k7
  have F8 := fun_mk (st := s_are_columns) l8 c8 k8
  have F9 := fun_mk (st := s_is_table) l9 c9 k9
  have F10 := fun_mk (st := s_are_tables) l10 c10 k10
  have F11 := fun_mk (st := s__law_numbers) l11 c11 k11
  have F12 := fun_mk (st := s__law_persons) l12 c12 k12
  have F13 := fun_mk (st := s__law_tables) l13 c13 k13
  have F14 := fun_mk (st := s__law_odd) l14 c14 k14
  have F15 := fun_mk (st := s__law_is_name) l15 c15 k15
  have F16 := fun_mk (st := s__law_is_whole) l16 c16 k16
  have F17 := fun_mk (st := s__law_is_column) l17 c17 k17
  have F18 := fun_mk (st := s__law_is_table) l18 c18 k18
  have F19 := fun_mk (st := s__law_are_tables) l19 c19 k19
  have F20 := fun_mk (st := s__law_bent) l20 c20 k20
  have F21 := fun_mk (st := s_law) l21 c21 k21
  refine ⟨PySem.W.fnOf "law" "law" (defArgs s_law) (defBody s_law) (defScope s_law) .none kV21 dc21 pm21 an21 cd21 ct21, fun s v => .of_eq rfl, fun base _ _ => ?_⟩
  have Y : Top ⟨K, mg, P, w, base⟩ := { b_all := PySem.W.mg_none_of X G z_all, b_bool := PySem.W.mg_none_of X G z_bool, b_enumerate := PySem.W.mg_none_of X G z_enumerate, b_int := PySem.W.mg_none_of X G z_int, b_isinstance := PySem.W.mg_none_of X G z_isinstance, b_len := PySem.W.mg_none_of X G z_len, b_list := PySem.W.mg_none_of X G z_list, b_max := PySem.W.mg_none_of X G z_max, b_range := PySem.W.mg_none_of X G z_range, b_repr := PySem.W.mg_none_of X G z_repr, b_set := PySem.W.mg_none_of X G z_set, b_str := PySem.W.mg_none_of X G z_str, b_tuple := PySem.W.mg_none_of X G z_tuple, c_KINDS := ⟨.ref q_KINDS, _, PySem.W.mg_of X G y_KINDS, rfl, fun _ _ => .tup (vs := [.str "person", .str "number"]) (.inr ⟨_, _, _, x_KINDS, rfl, rfl, (show 2 ≤ sizeLine by decide), (.cons ⟨_, rfl⟩ (.cons ⟨_, rfl⟩ .nil))⟩) (.cons (.str _) (.cons (.str _) .nil))⟩, c_LAST_MOMENT := ⟨.int 999, _, PySem.W.mg_of X G y_LAST_MOMENT, ⟨_, rfl⟩, fun _ _ => .int _⟩, c_LAST_WORTH := ⟨.int 9, _, PySem.W.mg_of X G y_LAST_WORTH, ⟨_, rfl⟩, fun _ _ => .int _⟩, c_LETTERS := ⟨.str "abcdefghijklmnopqrstuvwxyz", _, PySem.W.mg_of X G y_LETTERS, ⟨_, rfl⟩, fun _ _ => .str _⟩, c_LONGEST_NAME := ⟨.int 8, _, PySem.W.mg_of X G y_LONGEST_NAME, ⟨_, rfl⟩, fun _ _ => .int _⟩, c_MOST_COLUMNS := ⟨.int 6, _, PySem.W.mg_of X G y_MOST_COLUMNS, ⟨_, rfl⟩, fun _ _ => .int _⟩, c_MOST_TABLES := ⟨.int 6, _, PySem.W.mg_of X G y_MOST_TABLES, ⟨_, rfl⟩, fun _ _ => .int _⟩, c_RULES := ⟨.ref q_RULES, _, PySem.W.mg_of X G y_RULES, rfl, fun _ _ => .tup (vs := [.str "row", .str "part"]) (.inr ⟨_, _, _, x_RULES, rfl, rfl, (show 2 ≤ sizeLine by decide), (.cons ⟨_, rfl⟩ (.cons ⟨_, rfl⟩ .nil))⟩) (.cons (.str _) (.cons (.str _) .nil))⟩ }
  have D_is_whole := ok_is_whole Y  F0 (PySem.W.mg_of X G a0)
  have D_is_whole_within := ok_is_whole_within Y D_is_whole F1 (PySem.W.mg_of X G a1)
  have D_is_name := ok_is_name Y  F2 (PySem.W.mg_of X G a2)
  have D_is_worth := ok_is_worth Y D_is_whole_within F3 (PySem.W.mg_of X G a3)
  have D_is_moment := ok_is_moment Y D_is_whole_within F4 (PySem.W.mg_of X G a4)
  have D_is_one_of := ok_is_one_of Y D_is_name F5 (PySem.W.mg_of X G a5)
  have D_are_unlike := ok_are_unlike Y  F6 (PySem.W.mg_of X G a6)
  have D_is_column := ok_is_column Y D_is_worth D_is_one_of D_is_name F7 (PySem.W.mg_of X G a7)
  have D_are_columns := ok_are_columns Y D_are_unlike D_is_column F8 (PySem.W.mg_of X G a8)
  have D_is_table := ok_is_table Y D_is_one_of D_are_columns D_is_name F9 (PySem.W.mg_of X G a9)
  have D_are_tables := ok_are_tables Y D_are_unlike D_is_table F10 (PySem.W.mg_of X G a10)
  have D__law_numbers := ok__law_numbers Y  F11 (PySem.W.mg_of X G a11)
  have D__law_persons := ok__law_persons Y  F12 (PySem.W.mg_of X G a12)
  have D__law_tables := ok__law_tables Y  F13 (PySem.W.mg_of X G a13)
  have D__law_odd := ok__law_odd Y  F14 (PySem.W.mg_of X G a14)
  have D__law_is_name := ok__law_is_name Y  F15 (PySem.W.mg_of X G a15)
  have D__law_is_whole := ok__law_is_whole Y  F16 (PySem.W.mg_of X G a16)
  have D__law_is_column := ok__law_is_column Y D__law_is_whole D__law_is_name F17 (PySem.W.mg_of X G a17)
  have D__law_is_table := ok__law_is_table Y D__law_is_column D__law_is_name F18 (PySem.W.mg_of X G a18)
  have D__law_are_tables := ok__law_are_tables Y D__law_is_table F19 (PySem.W.mg_of X G a19)
  have D__law_bent := ok__law_bent Y D__law_odd F20 (PySem.W.mg_of X G a20)
  exact fn_law Y D_are_tables D__law_are_tables D__law_bent D__law_odd D_is_moment D_is_worth D_is_name D__law_is_whole D__law_is_name D__law_persons D__law_tables D__law_numbers F21
end K01

-- K01M
namespace PV
open PySem PySem.Spec PyProof.Rows L2
theorem trim_self (d : D) (M : Mem) : trim M.length d M = (d, M) := by
  unfold trim
  rw [List.take_length]
  split <;> rfl
theorem defD_rt {g : FS} {n m : Nat} {ds : List D} {M : Mem} {d : D} (hl : ds.length = m) (h : g (ds.map some ++ List.replicate (n - m) none) M = some (.rt d, M)) : defD g n m ds M = some (d, M) := by
  unfold defD
  rw [if_pos hl, h]
  show some (trim M.length d M) = _
  rw [trim_self]
@[simp] theorem bindO_s {α β : Type} (a : α) (M : Mem) (g : α → Mem → Option β) : bindO (some (a, M)) g = g a M := rfl
@[simp] theorem pairO_s (d : D) (M : Mem) : pairO (some d) M = some (d, M) := rfl
@[simp] theorem fC_s (d : D) (env : Vars) (M : Mem) : fC d env M = some (d, M) := rfl
@[simp] theorem fNil_s (env : Vars) (M : Mem) : fNil env M = some ([], M) := rfl
@[simp] theorem fYes_s (env : Vars) (M : Mem) : fYes env M = some (true, M) := rfl
@[simp] theorem gSkip_s (env : Vars) (M : Mem) : gSkip env M = some (.nx env, M) := rfl
theorem fV_s {i : Nat} {env : Vars} {M : Mem} {d : D} (h : env[i]? = some (some d)) : fV i env M = some (d, M) := by
  unfold fV
  rw [h]
/- the words of the functions -/
/-- a comprehension that changes no list -/
theorem compD_eq {h : FG} {t : FT} {f : FE} {env : Vars} {M : Mem} (b : D → Bool) (y : D → D) : ∀ xs : List D, (∀ d ∈ xs, ∃ env1, h d env = some env1 ∧ t env1 M = some (b d, M) ∧ (b d = true → f env1 M = some (y d, M))) →
    compD h t f yes env xs M = some ((xs.filter b).map y, M)
  | [], _ => rfl
  | d :: r, H => by
    obtain ⟨env1, h1, h2, h3⟩ := H d List.mem_cons_self
    have ih := compD_eq b y r fun d' m => H d' (List.mem_cons_of_mem _ m)
    unfold compD
    rw [show yes M = true from rfl]
    simp only [h1, h2, bindO_s]
    cases hb : b d with
    | true =>
      simp only [h3 hb, bindO_s]
      rw [ih]
      simp [hb]
    | false =>
      rw [ih]
      simp [hb]
theorem fLc_eq {i : FI} {vs : List Nat} {h : FG} {t : FT} {f : FE} {env : Vars} {M : Mem} {xs : List D} (b : D → Bool) (y : D → D) (hi : i env M = some ((xs, yes), M)) (hl : xs.length ≤ 100000)
    (H : ∀ d ∈ xs, ∃ env1, h d (wipeD env vs) = some env1 ∧ t env1 M = some (b d, M) ∧ (b d = true → f env1 M = some (y d, M))) : fLc i vs h t f env M = some ((xs.filter b).map y, M) := by
  unfold fLc
  rw [hi]
  simp only [bindO_s]
  rw [if_pos hl]
  exact compD_eq b y xs H
theorem fLc_all {i : FI} {vs : List Nat} {h : FG} {f : FE} {env : Vars} {M : Mem} {xs : List D} (y : D → D) (hi : i env M = some ((xs, yes), M)) (hl : xs.length ≤ 100000)
    (H : ∀ d ∈ xs, ∃ env1, h d (wipeD env vs) = some env1 ∧ f env1 M = some (y d, M)) : fLc i vs h fYes f env M = some (xs.map y, M) := by
  have z := fLc_eq (t := fYes) (fun _ => true) y hi hl fun d m => by
    obtain ⟨e, h1, h2⟩ := H d m
    exact ⟨e, h1, rfl, fun _ => h2⟩
  rw [z, List.filter_eq_self.mpr fun _ _ => rfl]
theorem boolsOf_map (p : D → Bool) : ∀ xs : List D, boolsOf (xs.map fun d => .bl (p d)) = some (xs.map p)
  | [] => rfl
  | d :: r => by
    simp only [List.map_cons, boolsOf, boolsOf_map p r]
theorem fAll_eq {f : FL} {env : Vars} {M : Mem} {xs : List D} {p : D → Bool} (h : f env M = some (xs.map fun d => .bl (p d), M)) : fAll f env M = some (.bl (xs.all p), M) := by
  unfold fAll
  rw [h]
  simp only [bindO_s, boolsOf_map]
  simp [List.all_map]
end PV
namespace K01
open PySem PySem.Spec PyProof.Rows L2 PV
def wholeB : D → Bool
  | .int _ => true
  | _ => false
theorem v_is_whole (d : D) (M : Mem) : f_is_whole [d] M = some (.bl (wholeB d), M) := defD_rt rfl (by cases d <;> rfl)
def withinB (a b : Int) : D → Bool
  | .int i => decide (a ≤ i) && decide (i ≤ b)
  | _ => false
theorem v_within (d : D) (a b : Int) (M : Mem) : f_is_whole_within [d, .int a, .int b] M = some (.bl (withinB a b d), M) := defD_rt rfl (by
  unfold g_is_whole_within
  simp only [gRet, gSeq, gIf, gSet, gAsg, gPar, gDrop, fV, fC_s, fCons, fNil_s, fOp, fTest, fNotT, fAndT, fOrT, fAndV, fOrV, fNotV, fDef, fCall, fIsi, fChain, hTup, hCons, hNil, hName, bindO_s, pairO_s, fYes_s, gSkip_s, List.getElem?_cons_zero, List.getElem?_cons_succ, List.map_cons, List.map_nil, List.cons_append, List.nil_append, List.replicate, List.set_cons_zero, List.set_cons_succ, Nat.sub_self, Nat.reduceSub]
  rw [v_is_whole]
  cases d with
  | int i =>
    simp only [wholeB, bindO_s, withinB, gLeI, gII, ite_true]
    cases decide (a ≤ i) <;> simp
  | _ => rfl)
theorem v_worth (d : D) (M : Mem) : f_is_worth [d] M = some (.bl (withinB 0 9 d), M) := defD_rt rfl (by
  unfold g_is_worth
  simp only [gRet, gSeq, gIf, gSet, gAsg, gPar, gDrop, fV, fC_s, fCons, fNil_s, fOp, fTest, fNotT, fAndT, fOrT, fAndV, fOrV, fNotV, fDef, fCall, fIsi, fChain, hTup, hCons, hNil, hName, bindO_s, pairO_s, fYes_s, gSkip_s, List.getElem?_cons_zero, List.getElem?_cons_succ, List.map_cons, List.map_nil, List.cons_append, List.nil_append, List.replicate, List.set_cons_zero, List.set_cons_succ, Nat.sub_self, Nat.reduceSub]
  rw [v_within]
  rfl)
theorem v_moment (d : D) (M : Mem) : f_is_moment [d] M = some (.bl (withinB 0 999 d), M) := defD_rt rfl (by
  unfold g_is_moment
  simp only [gRet, gSeq, gIf, gSet, gAsg, gPar, gDrop, fV, fC_s, fCons, fNil_s, fOp, fTest, fNotT, fAndT, fOrT, fAndV, fOrV, fNotV, fDef, fCall, fIsi, fChain, hTup, hCons, hNil, hName, bindO_s, pairO_s, fYes_s, gSkip_s, List.getElem?_cons_zero, List.getElem?_cons_succ, List.map_cons, List.map_nil, List.cons_append, List.nil_append, List.replicate, List.set_cons_zero, List.set_cons_succ, Nat.sub_self, Nat.reduceSub]
  rw [v_within]
  rfl)
theorem v_lwhole (d : D) (a b : Int) (M : Mem) : f__law_is_whole [d, .int a, .int b] M = some (.bl (withinB a b d), M) := defD_rt rfl (by
  unfold g__law_is_whole
  simp only [gRet, gSeq, gIf, gSet, gAsg, gPar, gDrop, fV, fC_s, fCons, fNil_s, fOp, fTest, fNotT, fAndT, fOrT, fAndV, fOrV, fNotV, fDef, fCall, fIsi, fChain, hTup, hCons, hNil, hName, bindO_s, pairO_s, fYes_s, gSkip_s, List.getElem?_cons_zero, List.getElem?_cons_succ, List.map_cons, List.map_nil, List.cons_append, List.nil_append, List.replicate, List.set_cons_zero, List.set_cons_succ, Nat.sub_self, Nat.reduceSub]
  cases d with
  | int i =>
    simp only [withinB, gLeI, gII, ite_true, show isK (.int i) "int" = true from rfl, show isK (.int i) "bool" = false from rfl, Bool.not_false]
    cases decide (a ≤ i) <;> simp
  | _ => rfl)
/-- a name, as a truth of data -/
def letters : Str := "abcdefghijklmnopqrstuvwxyz"
def nameB : D → Bool
  | .str z => decide (1 ≤ z.length) && decide (z.length ≤ 8) && z.cps.toList.all fun c => decide (c ∈ letters.cps.toList)
  | _ => false
def Small : D → Prop
  | .str z => z.length ≤ 100000
  | _ => True
def letD : D → Bool
  | .str s => (match s.cps.toList with | [c] => decide (c ∈ letters.cps.toList) | _ => false)
  | _ => false
theorem signs_all (z : Str) (p : Nat → Bool) (q : D → Bool) (h : ∀ c, q (.str ⟨#[c]⟩) = p c) : (PV.signs z).all q = z.cps.toList.all p := by
  unfold PV.signs
  rw [List.all_map]
  congr 1
  funext c
  exact h c
theorem v_name {d : D} (hs : Small d) (M : Mem) : f_is_name [d] M = some (.bl (nameB d), M) := defD_rt rfl (by
  unfold g_is_name
  cases d with
  | str z =>
    have hz : z.length ≤ 100000 := hs
    simp only [gRet, gSeq, gIf, gSet, gAsg, gPar, gDrop, fV, fC_s, fCons, fNil_s, fOp, fTest, fNotT, fAndT, fOrT, fAndV, fOrV, fNotV, fDef, fCall, fIsi, fChain, hTup, hCons, hNil, hName, bindO_s, pairO_s, fYes_s, gSkip_s, List.getElem?_cons_zero, List.getElem?_cons_succ, List.map_cons, List.map_nil, List.cons_append, List.nil_append, List.replicate, List.set_cons_zero, List.set_cons_succ, Nat.sub_self, Nat.reduceSub]
    simp only [show isK (.str z) "str" = true from rfl, Bool.not_true, gLen, if_pos hz, pairO_s, bindO_s, gLeI, gII, ite_true]
    by_cases h1 : 1 ≤ z.length
    · have e1 : decide ((1 : Int) ≤ (z.length : Int)) = true := decide_eq_true (by omega)
      simp only [e1, bindO_s, pairO_s]
      by_cases h2 : z.length ≤ 8
      · have e2 : decide ((z.length : Int) ≤ 8) = true := decide_eq_true (by omega)
        simp only [e2, bindO_s, Bool.not_true]
        rw [fAll_eq (xs := PV.signs z) (p := letD)]
        · rw [signs_all z (fun c => decide (c ∈ letters.cps.toList)) letD fun c => rfl]
          simp [nameB, h1, h2]
        · refine fLc_all _ rfl (by unfold PV.signs; simp; exact hz) fun d m => ?_
          unfold PV.signs at m
          obtain ⟨c, _, rfl⟩ := List.mem_map.mp m
          exact ⟨_, rfl, rfl⟩
      · have e2 : decide ((z.length : Int) ≤ 8) = false := decide_eq_false (by omega)
        simp only [e2, bindO_s, Bool.not_false]
        simp [nameB, h2]
    · have e1 : decide ((1 : Int) ≤ (z.length : Int)) = false := decide_eq_false (by omega)
      simp only [e1, bindO_s, Bool.not_false]
      simp [nameB, h1]
  | _ => rfl)
theorem v_lname {d : D} (hs : Small d) (M : Mem) : f__law_is_name [d] M = some (.bl (nameB d), M) := defD_rt rfl (by
  unfold g__law_is_name
  cases d with
  | str z =>
    have hz : z.length ≤ 100000 := hs
    simp only [gRet, gSeq, gIf, gSet, gAsg, gPar, gDrop, fV, fC_s, fCons, fNil_s, fOp, fTest, fNotT, fAndT, fOrT, fAndV, fOrV, fNotV, fDef, fCall, fIsi, fChain, hTup, hCons, hNil, hName, bindO_s, pairO_s, fYes_s, gSkip_s, List.getElem?_cons_zero, List.getElem?_cons_succ, List.map_cons, List.map_nil, List.cons_append, List.nil_append, List.replicate, List.set_cons_zero, List.set_cons_succ, Nat.sub_self, Nat.reduceSub]
    simp only [show isK (.str z) "str" = true from rfl, Bool.not_true, gLen, if_pos hz, pairO_s, bindO_s, gLeI, gII, ite_true]
    by_cases h1 : 1 ≤ z.length
    · have e1 : decide ((1 : Int) ≤ (z.length : Int)) = true := decide_eq_true (by omega)
      simp only [e1, bindO_s, pairO_s]
      by_cases h2 : z.length ≤ 8
      · have e2 : decide ((z.length : Int) ≤ 8) = true := decide_eq_true (by omega)
        simp only [e2, bindO_s, Bool.not_true]
        unfold fEqN
        rw [fLc_eq (xs := PV.signs z) (fun d => !letD d) (fun d => d) rfl (by unfold PV.signs; simp; exact hz) fun d m => ?_]
        · have z1 : ((PV.signs z).filter fun d => !letD d).isEmpty = (PV.signs z).all letD := by
            generalize PV.signs z = l
            induction l with
            | nil => rfl
            | cons x r ih =>
              cases hx : letD x with
              | true => simp [hx, ih]
              | false => simp [hx]
          simp only [bindO_s, fLst, fNil_s, List.length_nil, Nat.zero_le, if_true, List.isEmpty_nil, List.map_id']
          rw [z1, signs_all z (fun c => decide (c ∈ letters.cps.toList)) letD fun c => rfl]
          simp [nameB, h1, h2]
        · unfold PV.signs at m
          obtain ⟨c, _, rfl⟩ := List.mem_map.mp m
          exact ⟨_, rfl, rfl, fun _ => rfl⟩
      · have e2 : decide ((z.length : Int) ≤ 8) = false := decide_eq_false (by omega)
        simp only [e2, bindO_s, Bool.not_false]
        simp [nameB, h2]
    · have e1 : decide ((1 : Int) ≤ (z.length : Int)) = false := decide_eq_false (by omega)
      simp only [e1, bindO_s, Bool.not_false]
      simp [nameB, h1]
  | _ => rfl)
theorem gEq_str (M : Mem) (x y : Str) : gEq M (.str x) (.str y) = some (.bl (decide (x = y))) := by
  unfold gEq gEqF orO
  rw [if_pos ⟨rfl, rfl, rfl⟩]
  simp [toV]
theorem gNe_str (M : Mem) (x y : Str) : gNe M (.str x) (.str y) = some (.bl (!decide (x = y))) := by
  unfold gNe gEqF orO
  rw [if_pos ⟨rfl, rfl, rfl⟩]
  simp [toV]
theorem gEq_int (M : Mem) (x y : Int) : gEq M (.int x) (.int y) = some (.bl (decide (x = y))) := by
  unfold gEq gEqF orO
  rw [if_pos ⟨rfl, rfl, rfl⟩]
  simp [toV]
theorem gNe_int (M : Mem) (x y : Int) : gNe M (.int x) (.int y) = some (.bl (!decide (x = y))) := by
  unfold gNe gEqF orO
  rw [if_pos ⟨rfl, rfl, rfl⟩]
  simp [toV]
end K01

-- K01N
namespace K01
open PySem PySem.Spec PyProof.Rows L2 PV
/-- one of some words -/
def wordB (ws : List Str) : D → Bool
  | .str z => ws.any fun w => w == z
  | _ => false
def strD (ws : List Str) : List D := ws.map D.str
theorem flatL_strD (ws : List Str) : flatL (strD ws) = true := by
  unfold flatL strD
  rw [List.all_map, List.all_eq_true]
  exact fun _ _ => rfl
theorem dIn_strD (ws : List Str) (z : Str) : dIn (.str z) (strD ws) = wordB ws (.str z) := by
  unfold dIn strD wordB
  rw [List.any_map]
  rfl
theorem gIn_words (M : Mem) (ws : List Str) (z : Str) : gIn M (.str z) (.tup (strD ws)) = some (.bl (wordB ws (.str z))) := by
  unfold gIn gInS orO
  have e : gInC false M (.str z) (.tup (strD ws)) = none := rfl
  rw [e]
  simp only [gItems, flatL_strD, dIn_strD]
  rfl
theorem wordB_name {ws : List Str} (hw : ∀ w ∈ ws, nameB (.str w) = true) {d : D} (h : wordB ws d = true) : nameB d = true := by
  cases d with
  | str z =>
    obtain ⟨w, m, e⟩ := List.any_eq_true.mp h
    have : w = z := eq_of_beq e
    subst this
    exact hw _ m
  | _ => cases h
theorem v_oneof {ws : List Str} (hw : ∀ w ∈ ws, nameB (.str w) = true) {d : D} (hs : Small d) (M : Mem) : f_is_one_of [.tup (strD ws), d] M = some (.bl (wordB ws d), M) := defD_rt rfl (by
  unfold g_is_one_of
  simp only [gRet, gSeq, gIf, gSet, gAsg, gPar, gDrop, fV, fC_s, fCons, fNil_s, fOp, fTest, fNotT, fAndT, fOrT, fAndV, fOrV, fNotV, fDef, fCall, fIsi, fChain, hTup, hCons, hNil, hName, bindO_s, pairO_s, fYes_s, gSkip_s, List.getElem?_cons_zero, List.getElem?_cons_succ, List.map_cons, List.map_nil, List.cons_append, List.nil_append, List.replicate, List.set_cons_zero, List.set_cons_succ, Nat.sub_self, Nat.reduceSub]
  rw [v_name hs]
  cases hn : nameB d with
  | false =>
    have hf : wordB ws d = false := by
      cases h : wordB ws d with
      | false => rfl
      | true => rw [wordB_name hw h] at hn; cases hn
    simp only [bindO_s, hf]
  | true =>
    cases d with
    | str z => simp only [bindO_s, gIn_words, pairO_s]
    | _ => cases hn)
def kinds : List Str := ["person", "number"]
def rules : List Str := ["row", "part"]
theorem kinds_names : ∀ w ∈ kinds, nameB (.str w) = true := by decide +kernel
theorem rules_names : ∀ w ∈ rules, nameB (.str w) = true := by decide +kernel
def isS (w : Str) : D → Bool
  | .str z => decide (z = w)
  | _ => false
def nonB : D → Bool
  | .non => true
  | _ => false
theorem gIsN_eq (M : Mem) (d : D) : gIsN false M d .non = some (.bl (nonB d)) := by cases d <;> rfl
/-- a column -/
def colB : D → Bool
  | .tup [n, k, v] => nameB n && wordB kinds k && (nonB v || (isS "number" k && withinB 0 9 v))
  | _ => false
def SmallC : D → Prop
  | .tup [n, k, v] => Small n ∧ Small k ∧ Small v
  | _ => True
theorem v_col {d : D} (hs : SmallC d) (M : Mem) : f_is_column [d] M = some (.bl (colB d), M) := defD_rt rfl (by
  unfold g_is_column
  cases d with
  | tup xs =>
    simp only [gRet, gSeq, gIf, gSet, gAsg, gPar, gDrop, fV, fC_s, fCons, fNil_s, fOp, fTest, fNotT, fAndT, fOrT, fAndV, fOrV, fNotV, fDef, fCall, fIsi, fChain, hTup, hCons, hNil, hName, bindO_s, pairO_s, fYes_s, gSkip_s, List.getElem?_cons_zero, List.getElem?_cons_succ, List.map_cons, List.map_nil, List.cons_append, List.nil_append, List.replicate, List.set_cons_zero, List.set_cons_succ, Nat.sub_self, Nat.reduceSub]
    simp only [show isK (.tup xs) "tuple" = true from rfl, Bool.not_true, gLen, pairO_s, bindO_s, gNe_int]
    match xs, hs with
    | [n, k, v], hs =>
      obtain ⟨h1, h2, h3⟩ := hs
      rw [show (!decide ((([n, k, v] : List D).length : Int) = 3)) = false from rfl]
      simp only [bindO_s, List.getElem?_cons_zero]
      rw [if_pos (show ([n, k, v] : List D).length = 3 from rfl)]
      simp only [bindO_s, List.set_cons_zero, List.set_cons_succ, List.getElem?_cons_succ, List.getElem?_cons_zero]
      rw [v_name h1]
      cases hn : nameB n with
      | false => simp [colB, hn]
      | true =>
        simp only [bindO_s, Bool.not_true]
        have e : f_is_one_of [.tup [.str "person", .str "number"], k] M = some (.bl (wordB kinds k), M) := v_oneof kinds_names h2 M
        rw [e]
        cases hk : wordB kinds k with
        | false => simp [colB, hn, hk]
        | true =>
          simp only [bindO_s, pairO_s, List.getElem?_cons_succ, List.getElem?_cons_zero, List.set_cons_zero, List.set_cons_succ, Bool.not_true, Bool.not_false]
          simp only [gIsN_eq, bindO_s, pairO_s]
          cases hv : nonB v with
          | true => simp [colB, hn, hk, hv]
          | false =>
            cases k with
            | str z =>
              simp only [bindO_s, gEq_str, pairO_s]
              by_cases hz : z = "number"
              · simp only [decide_eq_true hz]
                rw [v_worth]
                simp only [bindO_s]
                simp [colB, hn, hk, hv, isS, hz]
                exact fun _ => hz ▸ hk
              · simp only [decide_eq_false hz]
                simp [colB, hn, hk, hv, isS, hz]
            | _ => cases hk
    | [], _ => rfl
    | [_], _ => rfl
    | [_, _], _ => rfl
    | _ :: _ :: _ :: _ :: r, _ =>
      have e : (!decide (((r.length + 1 + 1 + 1 + 1 : Nat) : Int) = 3)) = true := by
        rw [decide_eq_false (by omega)]
        rfl
      simp only [List.length_cons, e, bindO_s]
      rfl
  | _ => rfl)
/-! ### the law's own -/
/-- what is shown of a thing tells whether it is one of the words -/
def Shows (M : Mem) (ws : List Str) (d : D) : Prop := ∃ q, toQ M 60 d = some q ∧ q.showable = true ∧ q.depth ≤ 60 ∧ q.shown.length ≤ sizeLine ∧ ∀ w ∈ ws, decide (q.shown = reprText w) = isS w d
theorem fRepr_eq {f : FE} {env : Vars} {M : Mem} {d : D} {q : PyData} (h : f env M = some (d, M)) (hq : toQ M 60 d = some q) (h1 : q.showable = true) (h2 : q.depth ≤ 60) (h3 : q.shown.length ≤ sizeLine) : fRepr f env M = some (.str q.shown, M) := by
  unfold fRepr
  rw [h]
  simp only [bindO_s, hq]
  rw [if_pos ⟨h1, h2, h3⟩]
theorem repr_text (M : Mem) (env : Vars) (z : Str) (h : (reprText z).length ≤ sizeLine) : fRepr (fC (.str z)) env M = some (.str (reprText z), M) :=
  fRepr_eq (q := .str z) rfl rfl rfl (by simp [PyData.depth]) (by rw [PyData.shown]; exact h)
def ColOk (M : Mem) : D → Prop
  | .tup [n, k, v] => Small n ∧ Small k ∧ Small v ∧ Shows M kinds k
  | _ => True
theorem ColOk.small {M : Mem} {d : D} (h : ColOk M d) : SmallC d := by
  unfold ColOk at h
  split at h
  · exact ⟨h.1, h.2.1, h.2.2.1⟩
  · rename_i hn
    unfold SmallC
    split
    · rename_i n k v
      exact absurd rfl (hn n k v)
    · trivial
theorem gIx_0 (M : Mem) (a : D) (r : List D) : gIx M (.tup (a :: r)) (.int 0) = some a := by
  exact L2.atI_nat (j := 0) rfl
theorem gIx_1 (M : Mem) (a b : D) (r : List D) : gIx M (.tup (a :: b :: r)) (.int 1) = some b := by
  exact L2.atI_nat (j := 1) rfl
theorem gIx_2 (M : Mem) (a b c : D) (r : List D) : gIx M (.tup (a :: b :: c :: r)) (.int 2) = some c := by
  exact L2.atI_nat (j := 2) rfl
theorem kinds_split (k : D) : wordB kinds k = (isS "person" k || isS "number" k) := by
  cases k with
  | str z =>
    simp only [wordB, kinds, isS, List.any_cons, List.any_nil, Bool.or_false]
    have e : ∀ w : Str, (w == z) = decide (z = w) := fun w => by
      by_cases h : z = w
      · subst h
        simp
      · rw [decide_eq_false h]
        exact beq_eq_false_iff_ne.mpr fun q => h q.symm
    rw [e, e]
  | _ => rfl
theorem len_of_text {w : Str} (h : (reprText w).length ≤ 1000) : (reprText w).length ≤ sizeLine := Nat.le_trans h (by decide)
theorem person_len : (reprText "person").length ≤ 1000 := by decide +kernel
theorem number_len : (reprText "number").length ≤ 1000 := by decide +kernel
theorem v_lcol {d : D} {M : Mem} (hs : ColOk M d) : f__law_is_column [d] M = some (.bl (colB d), M) := defD_rt rfl (by
  unfold g__law_is_column
  cases d with
  | tup xs =>
    simp only [gRet, gSeq, gIf, gSet, gAsg, gPar, gDrop, fV, fC_s, fCons, fNil_s, fOp, fTest, fNotT, fAndT, fOrT, fAndV, fOrV, fNotV, fDef, fCall, fIsi, fChain, hTup, hCons, hNil, hName, bindO_s, pairO_s, fYes_s, gSkip_s, List.getElem?_cons_zero, List.getElem?_cons_succ, List.map_cons, List.map_nil, List.cons_append, List.nil_append, List.replicate, List.set_cons_zero, List.set_cons_succ, Nat.sub_self, Nat.reduceSub]
    simp only [show isK (.tup xs) "tuple" = true from rfl, Bool.not_true, gLen, pairO_s, bindO_s, gNe_int]
    match xs, hs with
    | [n, k, v], hs =>
      obtain ⟨h1, h2, h3, q, q1, q2, q3, q4, q5⟩ := hs
      rw [show (!decide ((([n, k, v] : List D).length : Int) = 3)) = false from rfl]
      simp only [gIx_0, gIx_1, gIx_2, bindO_s, pairO_s]
      rw [v_lname h1]
      cases hn : nameB n with
      | false => simp [colB, hn]
      | true =>
        simp only [bindO_s, pairO_s, List.getElem?_cons_succ, List.getElem?_cons_zero, List.set_cons_zero, List.set_cons_succ, Bool.not_true, Bool.not_false]
        have ek' : fRepr (fOp gIx (fV 0) (fC (.int 1))) [some (.tup [n, k, v])] M = some (.str q.shown, M) := fRepr_eq (d := k) rfl q1 q2 q3 q4
        have z1 := q5 "person" (by decide)
        have z2 := q5 "number" (by decide)
        rw [ek']
        simp only [bindO_s, pairO_s, List.getElem?_cons_succ, List.getElem?_cons_zero, List.set_cons_zero, List.set_cons_succ, Bool.not_true, Bool.not_false]
        rw [repr_text M _ _ (len_of_text person_len)]
        simp only [bindO_s, gEq_str, pairO_s, z1]
        cases hp : isS "person" k with
        | true =>
          have hk : isS "number" k = false := by
            cases k with
            | str z =>
              have e : z = "person" := of_decide_eq_true hp
              subst e
              rfl
            | _ => cases hp
          simp only [gIx_2, gIsN_eq, bindO_s, pairO_s]
          simp [colB, hn, kinds_split, hp, hk]
        | false =>
          simp only [bindO_s, pairO_s, List.getElem?_cons_succ, List.getElem?_cons_zero, List.set_cons_zero, List.set_cons_succ, Bool.not_true, Bool.not_false]
          rw [ek']
          simp only [bindO_s, pairO_s, List.getElem?_cons_succ, List.getElem?_cons_zero, List.set_cons_zero, List.set_cons_succ, Bool.not_true, Bool.not_false]
          rw [repr_text M _ _ (len_of_text number_len)]
          simp only [bindO_s, gEq_str, pairO_s, z2]
          cases hk : isS "number" k with
          | false => simp [colB, hn, kinds_split, hp, hk]
          | true =>
            simp only [gIx_2, gIsN_eq, bindO_s, pairO_s]
            cases hv : nonB v with
            | true => simp [colB, hn, kinds_split, hp, hk, hv]
            | false =>
              simp only []
              rw [v_lwhole]
              simp [colB, hn, kinds_split, hp, hk, hv]
    | [], _ => rfl
    | [_], _ => rfl
    | [_, _], _ => rfl
    | _ :: _ :: _ :: _ :: r, _ =>
      have e : (!decide (((r.length + 1 + 1 + 1 + 1 : Nat) : Int) = 3)) = true := by
        rw [decide_eq_false (by omega)]
        rfl
      simp only [List.length_cons, e, bindO_s]
      rfl
  | _ => rfl)
end K01

-- K01P
namespace K01
open PySem PySem.Spec PyProof.Rows L2 PV
/-- the first item's text -/
def headS : D → Str
  | .tup (.str z :: _) => z
  | _ => ""
def Headed (d : D) : Prop := ∃ z r, d = .tup (.str z :: r)
theorem colB_headed {d : D} (h : colB d = true) : Headed d := by
  unfold colB at h
  split at h
  · rename_i n k v
    simp only [Bool.and_eq_true] at h
    cases n with
    | str z => exact ⟨z, _, rfl⟩
    | _ => cases h.1.1
  · cases h
theorem textsOf_heads : ∀ {cs : List D}, textsOf (cs.map fun d => .str (headS d)) = some (cs.map headS)
  | [] => rfl
  | c :: r => by
    simp only [List.map_cons, textsOf, textsOf_heads (cs := r)]
/-- how many unlike ones -/
def unl (cs : List D) : Bool := decide (((unlike (cs.map headS) : Nat) : Int) = ((cs.length : Nat) : Int))
theorem heads_eq {fi : FI} {j n : Nat} {env : Vars} {M : Mem} {cs : List D} (hj : j < env.length) (hi : fi env M = some ((cs, yes), M)) (hl : cs.length ≤ 1000) (hh : ∀ d ∈ cs, Headed d) :
    fLenSet (fLc fi [j] (hName j) fYes (fOp gIx (fV j) (fC (.int 0)))) env M = some (.int (unlike (cs.map headS)), M) := by
  unfold fLenSet
  rw [fLc_all (fun d => .str (headS d)) hi (by omega) fun d m => ?_]
  · simp only [bindO_s, textsOf_heads]
    rw [if_pos (by rw [List.length_map]; exact hl)]
  · obtain ⟨z, r, rfl⟩ := hh d m
    refine ⟨_, rfl, ?_⟩
    have e : fV j ((wipeD env [j]).set j (some (.tup (.str z :: r)))) M = some (.tup (.str z :: r), M) := fV_s (by
      rw [List.getElem?_set_self]
      simp [wipeD]
      exact hj)
    unfold fOp
    rw [e]
    simp only [bindO_s, fC_s, gIx_0, pairO_s]
    rfl
theorem v_unlike {cs : List D} (hl : cs.length ≤ 1000) (hh : ∀ d ∈ cs, Headed d) (M : Mem) : f_are_unlike [.tup cs] M = some (.bl (unl cs), M) := defD_rt rfl (by
  unfold g_are_unlike gRet
  have e := heads_eq (fi := iVal (fV 0)) (j := 1) (n := 0) (env := [some (.tup cs), none]) (M := M) (by simp) rfl hl hh
  have e2 : fCall gLen (fCons (fV 0) fNil) [some (.tup cs), none] M = some (.int cs.length, M) := rfl
  show bindO (bindO (fLenSet (fLc (iVal (fV 0)) [1] (hName 1) fYes (fOp gIx (fV 1) (fC (.int 0)))) [some (.tup cs), none] M) fun x M1 => bindO (fCall gLen (fCons (fV 0) fNil) [some (.tup cs), none] M1) fun y M2 => pairO (gEq M2 x y) M2) _ = _
  rw [e]
  simp only [bindO_s, e2, gEq_int, pairO_s]
  rfl)
/-- one to six such ones, called unlike -/
def manyB (B : D → Bool) : D → Bool
  | .tup cs => decide (1 ≤ cs.length) && decide (cs.length ≤ 6) && cs.all B && unl cs
  | _ => false
def gMany (f : FD) : FS := gSeq (gIf (fOrT (fNotT (fTest (fIsi "tuple" (fV 0)))) (fNotT (fTest (fChain gLeI gLeI (fC (.int 1)) (fCall gLen (fCons (fV 0) fNil)) (fC (.int 6)))))) (gRet (fC (.bl false))) gSkip)
  (gRet (fAndV (fAll (fLc (iVal (fV 0)) [1] (hName 1) fYes (fDef f (fCons (fV 1) fNil)))) (fDef f_are_unlike (fCons (fV 0) fNil))))
theorem v_gMany {f : FD} {B : D → Bool} {M : Mem} {d : D} (hB : ∀ c, B c = true → Headed c) (hf : ∀ cs, d = .tup cs → ∀ c ∈ cs, f [c] M = some (.bl (B c), M)) : defD (gMany f) 2 1 [d] M = some (.bl (manyB B d), M) := defD_rt rfl (by
  unfold gMany
  cases d with
  | tup cs =>
    simp only [gRet, gSeq, gIf, gSet, gAsg, gPar, gDrop, fV, fC_s, fCons, fNil_s, fOp, fTest, fNotT, fAndT, fOrT, fAndV, fOrV, fNotV, fDef, fCall, fIsi, fChain, hTup, hCons, hNil, hName, bindO_s, pairO_s, fYes_s, gSkip_s, List.getElem?_cons_zero, List.getElem?_cons_succ, List.map_cons, List.map_nil, List.cons_append, List.nil_append, List.replicate, List.set_cons_zero, List.set_cons_succ, Nat.sub_self, Nat.reduceSub]
    simp only [show isK (.tup cs) "tuple" = true from rfl, Bool.not_true, gLen, pairO_s, bindO_s, gLeI, gII, ite_true]
    by_cases h1 : 1 ≤ cs.length
    · simp only [show decide ((1 : Int) ≤ (cs.length : Int)) = true from decide_eq_true (by omega), bindO_s]
      by_cases h2 : cs.length ≤ 6
      · simp only [show decide ((cs.length : Int) ≤ 6) = true from decide_eq_true (by omega), bindO_s, Bool.not_true]
        rw [fAll_eq (xs := cs) (p := B)]
        · simp only [bindO_s]
          cases ha : cs.all B with
          | false => simp [manyB, ha]
          | true =>
            simp only [bindO_s, pairO_s, List.getElem?_cons_succ, List.getElem?_cons_zero, List.set_cons_zero, List.set_cons_succ, Bool.not_true, Bool.not_false]
            rw [v_unlike (by omega) fun c m => hB c (List.all_eq_true.mp ha c m)]
            simp [manyB, ha, h1, h2]
        · refine fLc_all (fun c => .bl (B c)) rfl (by omega) fun c m => ⟨_, rfl, ?_⟩
          have z := hf cs rfl c m
          show bindO (bindO (some (c, M)) fun d M1 => bindO (some ([], M1)) fun ds M2 => some (d :: ds, M2)) _ = _
          simp only [bindO_s]
          exact z
      · simp only [show decide ((cs.length : Int) ≤ 6) = false from decide_eq_false (by omega), bindO_s, Bool.not_false]
        simp [manyB, h2]
    · simp only [show decide ((1 : Int) ≤ (cs.length : Int)) = false from decide_eq_false (by omega), bindO_s, Bool.not_false]
      simp [manyB, h1]
  | _ => rfl)
def colsB : D → Bool := manyB colB
def SmallCs : D → Prop
  | .tup cs => ∀ c ∈ cs, SmallC c
  | _ => True
theorem v_cols {d : D} (hs : SmallCs d) (M : Mem) : f_are_columns [d] M = some (.bl (colsB d), M) := v_gMany (fun _ => colB_headed) fun cs e c m => by
  subst e
  exact v_col (hs c m) M
/-- a table -/
def tabB : D → Bool
  | .tup [n, cs, r] => nameB n && (colsB cs && wordB rules r)
  | _ => false
def SmallT : D → Prop
  | .tup [n, cs, r] => Small n ∧ SmallCs cs ∧ Small r
  | _ => True
theorem v_tab {d : D} (hs : SmallT d) (M : Mem) : f_is_table [d] M = some (.bl (tabB d), M) := defD_rt rfl (by
  unfold g_is_table
  cases d with
  | tup xs =>
    simp only [gRet, gSeq, gIf, gSet, gAsg, gPar, gDrop, fV, fC_s, fCons, fNil_s, fOp, fTest, fNotT, fAndT, fOrT, fAndV, fOrV, fNotV, fDef, fCall, fIsi, fChain, hTup, hCons, hNil, hName, bindO_s, pairO_s, fYes_s, gSkip_s, List.getElem?_cons_zero, List.getElem?_cons_succ, List.map_cons, List.map_nil, List.cons_append, List.nil_append, List.replicate, List.set_cons_zero, List.set_cons_succ, Nat.sub_self, Nat.reduceSub]
    simp only [show isK (.tup xs) "tuple" = true from rfl, Bool.not_true, gLen, pairO_s, bindO_s, gNe_int]
    match xs, hs with
    | [n, k, v], hs =>
      obtain ⟨h1, h2, h3⟩ := hs
      rw [show (!decide ((([n, k, v] : List D).length : Int) = 3)) = false from rfl]
      simp only [bindO_s, List.getElem?_cons_zero]
      rw [if_pos (show ([n, k, v] : List D).length = 3 from rfl)]
      simp only [bindO_s, pairO_s, List.getElem?_cons_succ, List.getElem?_cons_zero, List.set_cons_zero, List.set_cons_succ, Bool.not_true, Bool.not_false]
      rw [v_name h1]
      cases hn : nameB n with
      | false => simp [tabB, hn]
      | true =>
        simp only [bindO_s, pairO_s, List.getElem?_cons_succ, List.getElem?_cons_zero, List.set_cons_zero, List.set_cons_succ, Bool.not_true, Bool.not_false]
        rw [v_cols h2]
        cases hk : colsB k with
        | false => simp [tabB, hn, hk]
        | true =>
          simp only [bindO_s, pairO_s, List.getElem?_cons_succ, List.getElem?_cons_zero, List.set_cons_zero, List.set_cons_succ, Bool.not_true, Bool.not_false]
          have e : f_is_one_of [.tup [.str "row", .str "part"], v] M = some (.bl (wordB rules v), M) := v_oneof rules_names h3 M
          rw [e]
          simp [tabB, hn, hk]
    | [], _ => rfl
    | [_], _ => rfl
    | [_, _], _ => rfl
    | _ :: _ :: _ :: _ :: r, _ =>
      have e : (!decide (((r.length + 1 + 1 + 1 + 1 : Nat) : Int) = 3)) = true := by
        rw [decide_eq_false (by omega)]
        rfl
      simp only [List.length_cons, e, bindO_s]
      rfl
  | _ => rfl)
theorem tabB_headed {d : D} (h : tabB d = true) : Headed d := by
  unfold tabB at h
  split at h
  · rename_i n k v
    simp only [Bool.and_eq_true] at h
    cases n with
    | str z => exact ⟨z, _, rfl⟩
    | _ => cases h.1
  · cases h
def tabsB : D → Bool := manyB tabB
def SmallTs : D → Prop
  | .tup ts => ∀ t ∈ ts, SmallT t
  | _ => True
theorem v_tabs {d : D} (hs : SmallTs d) (M : Mem) : f_are_tables [d] M = some (.bl (tabsB d), M) := v_gMany (fun _ => tabB_headed) fun cs e c m => by
  subst e
  exact v_tab (hs c m) M
/-! ### the law's own -/
theorem filter_none {B : D → Bool} : ∀ cs : List D, ((cs.filter fun c => !B c).isEmpty) = cs.all B
  | [] => rfl
  | c :: r => by
    have ih := filter_none (B := B) r
    cases h : B c with
    | true => simp [h, ih]
    | false => simp [h]
theorem bad_eq {f : FD} {B : D → Bool} {fi : FI} {env : Vars} {M : Mem} {cs : List D} (hj : 1 < env.length) (hi : fi env M = some ((cs, yes), M)) (hl : cs.length ≤ 1000) (hf : ∀ c ∈ cs, f [c] M = some (.bl (B c), M)) :
    fEqN true (fLc fi [1] (hName 1) (fNotT (fTest (fDef f (fCons (fV 1) fNil)))) (fV 1)) (fLst fNil) env M = some (.bl (!cs.all B), M) := by
  unfold fEqN
  rw [fLc_eq (fun c => !B c) (fun c => c) hi (by omega) fun c m => ?_]
  · simp only [bindO_s, fLst, fNil_s, List.length_nil, Nat.zero_le, if_true, List.isEmpty_nil, List.map_id', filter_none]
  · have e : fV 1 ((wipeD env [1]).set 1 (some c)) M = some (c, M) := fV_s (by
      rw [List.getElem?_set_self]
      simp [wipeD]
      exact hj)
    refine ⟨_, rfl, ?_, fun _ => e⟩
    unfold fNotT fTest fDef fCons
    rw [e]
    simp only [bindO_s, fNil_s]
    rw [hf c m]
    rfl
def ColsOk (M : Mem) : D → Prop
  | .tup cs => ∀ c ∈ cs, ColOk M c
  | _ => True
def TabOk (M : Mem) : D → Prop
  | .tup [n, cs, r] => Small n ∧ ColsOk M cs ∧ Small r ∧ Shows M rules r
  | _ => True
theorem row_text : reprText "row" = "'row'" := by decide +kernel
theorem part_text : reprText "part" = "'part'" := by decide +kernel
theorem rules_split (k : D) : wordB rules k = (isS "row" k || isS "part" k) := by
  cases k with
  | str z =>
    simp only [wordB, rules, isS, List.any_cons, List.any_nil, Bool.or_false]
    have e : ∀ w : Str, (w == z) = decide (z = w) := fun w => by
      by_cases h : z = w
      · subst h
        simp
      · rw [decide_eq_false h]
        exact beq_eq_false_iff_ne.mpr fun q => h q.symm
    rw [e, e]
  | _ => rfl
theorem dIn_rules {x : Str} {r : D} (h : ∀ w ∈ rules, decide (x = reprText w) = isS w r) : dIn (.str x) [.str "'row'", .str "'part'"] = wordB rules r := by
  have e : ∀ w : Str, (w == x) = decide (x = w) := fun w => by
    by_cases h : x = w
    · subst h
      simp
    · rw [decide_eq_false h]
      exact beq_eq_false_iff_ne.mpr fun q => h q.symm
  show ((("'row'" : Str) == x) || ((("'part'" : Str) == x) || false)) = _
  rw [e, e, ← row_text, ← part_text, h "row" (by decide), h "part" (by decide), rules_split, Bool.or_false]
theorem v_ltab {d : D} {M : Mem} (hs : TabOk M d) : f__law_is_table [d] M = some (.bl (tabB d), M) := defD_rt rfl (by
  unfold g__law_is_table
  cases d with
  | tup xs =>
    match xs, hs with
    | [n, k, v], hs =>
      obtain ⟨h1, h2, h3, q, q1, q2, q3, q4, q5⟩ := hs
      have er : fRepr (fOp gIx (fV 0) (fC (.int 2))) [some (.tup [n, k, v]), none] M = some (.str q.shown, M) := fRepr_eq (d := v) rfl q1 q2 q3 q4
      have en : fDef f__law_is_name (fCons (fOp gIx (fV 0) (fC (.int 0))) fNil) [some (.tup [n, k, v]), none] M = some (.bl (nameB n), M) := v_lname h1 M
      have ek : fOp gIx (fV 0) (fC (.int 1)) [some (.tup [n, k, v]), none] M = some (k, M) := rfl
      have el : fOp gNe (fCall gLen (fCons (fV 0) fNil)) (fC (.int 3)) [some (.tup [n, k, v]), none] M = some (.bl false, M) := rfl
      have ei : fIsi "tuple" (fV 0) [some (.tup [n, k, v]), none] M = some (.bl true, M) := rfl
      simp only [gSeq, gIf, fOrT, fNotT, fTest, List.map_cons, List.map_nil, List.cons_append, List.nil_append, List.replicate, Nat.reduceSub, ei, el, en, bindO_s, Bool.not_true]
      cases hn : nameB n with
      | false => simp [tabB, hn, gRet]
      | true =>
        simp only [Bool.not_true, gSkip_s, bindO_s]
        cases k with
        | tup cs =>
          have ei2 : fIsi "tuple" (fOp gIx (fV 0) (fC (.int 1))) [some (.tup [n, .tup cs, v]), none] M = some (.bl true, M) := rfl
          have ec : fChain gLeI gLeI (fC (.int 1)) (fCall gLen (fCons (fOp gIx (fV 0) (fC (.int 1))) fNil)) (fC (.int 6)) [some (.tup [n, .tup cs, v]), none] M = some (.bl (decide (1 ≤ cs.length) && decide (cs.length ≤ 6)), M) := by
            unfold fChain fCall fCons
            simp only [bindO_s, fC_s]
            rw [ek]
            simp only [bindO_s, fC_s, fNil_s, gLen, pairO_s, gLeI, gII, ite_true]
            by_cases a1 : 1 ≤ cs.length
            · simp only [show decide ((1 : Int) ≤ (cs.length : Int)) = true from decide_eq_true (by omega), decide_eq_true a1, Bool.true_and]
              by_cases a2 : cs.length ≤ 6
              · simp only [show decide ((cs.length : Int) ≤ 6) = true from decide_eq_true (by omega), decide_eq_true a2]
              · simp only [show decide ((cs.length : Int) ≤ 6) = false from decide_eq_false (by omega), decide_eq_false a2]
            · simp only [show decide ((1 : Int) ≤ (cs.length : Int)) = false from decide_eq_false (by omega), decide_eq_false a1, Bool.false_and]
          simp only [ei2, ec, bindO_s, Bool.not_true]
          cases hlen : (decide (1 ≤ cs.length) && decide (cs.length ≤ 6)) with
          | false =>
            simp only [Bool.not_false, gRet, fC_s, bindO_s]
            simp [tabB, colsB, manyB, hlen]
          | true =>
            have a2 : cs.length ≤ 6 := by
              simp only [Bool.and_eq_true, decide_eq_true_eq] at hlen
              exact hlen.2
            have eF : fInF true (fRepr (fOp gIx (fV 0) (fC (.int 2)))) (fLst (fCons (fC (.str "'row'")) (fCons (fC (.str "'part'")) fNil))) [some (.tup [n, .tup cs, v]), none] M = some (.bl (!wordB rules v), M) := by
              unfold fInF
              rw [er]
              show (if flatD (.str q.shown) = true ∧ flatL [.str "'row'", .str "'part'"] = true then some (D.bl (!dIn (.str q.shown) [.str "'row'", .str "'part'"]), M) else none) = _
              rw [if_pos ⟨rfl, rfl⟩, dIn_rules q5]
            simp only [Bool.not_true, eF, bindO_s]
            cases hr : wordB rules v with
            | false =>
              simp only [Bool.not_false, gRet, fC_s, bindO_s]
              simp [tabB, hr]
            | true =>
              have eb := bad_eq (f := f__law_is_column) (B := colB) (fi := iVal (fOp gIx (fV 0) (fC (.int 1)))) (env := [some (.tup [n, .tup cs, v]), none]) (M := M) (cs := cs) (by simp) rfl (by omega) fun c m => v_lcol (h2 c m)
              simp only [Bool.not_true, bindO_s]
              rw [eb]
              simp only [bindO_s]
              cases ha : cs.all colB with
              | false =>
                simp only [Bool.not_false, gRet, fC_s, bindO_s]
                simp [tabB, colsB, manyB, ha]
              | true =>
                have eh := heads_eq (fi := iVal (fOp gIx (fV 0) (fC (.int 1)))) (j := 1) (n := 0) (env := [some (.tup [n, .tup cs, v]), none]) (M := M) (by simp) rfl (by omega) fun c m => colB_headed (List.all_eq_true.mp ha c m)
                have e2 : fCall gLen (fCons (fOp gIx (fV 0) (fC (.int 1))) fNil) [some (.tup [n, .tup cs, v]), none] M = some (.int cs.length, M) := rfl
                simp only [Bool.not_true, gSkip_s, bindO_s, gRet]
                show bindO (bindO (fLenSet (fLc (iVal (fOp gIx (fV 0) (fC (.int 1)))) [1] (hName 1) fYes (fOp gIx (fV 1) (fC (.int 0)))) [some (.tup [n, .tup cs, v]), none] M) fun x M1 => bindO (fCall gLen (fCons (fOp gIx (fV 0) (fC (.int 1))) fNil) [some (.tup [n, .tup cs, v]), none] M1) fun y M2 => pairO (gEq M2 x y) M2) _ = _
                rw [eh]
                simp only [bindO_s, e2, gEq_int, pairO_s]
                simp only [Bool.and_eq_true, decide_eq_true_eq] at hlen
                simp [tabB, colsB, manyB, ha, hn, hr, hlen.1, hlen.2, unl]
        | _ => simp [tabB, colsB, manyB, fIsi, ek, hn, gRet, show ∀ b, isK (.bl b) "tuple" = false from fun _ => rfl, show isK .non "tuple" = false from rfl, show isK .emp "tuple" = false from rfl, show ∀ b, isK (.int b) "tuple" = false from fun _ => rfl, show ∀ b, isK (.str b) "tuple" = false from fun _ => rfl, show ∀ b, isK (.ref b) "tuple" = false from fun _ => rfl, show ∀ b, isK (.cl b) "tuple" = false from fun _ => rfl]
    | [], _ => rfl
    | [_], _ => rfl
    | [_, _], _ => rfl
    | _ :: _ :: _ :: _ :: r, _ =>
      have e : (!decide (((r.length + 1 + 1 + 1 + 1 : Nat) : Int) = 3)) = true := by
        rw [decide_eq_false (by omega)]
        rfl
      simp only [gRet, gSeq, gIf, gSet, gAsg, gPar, gDrop, fV, fC_s, fCons, fNil_s, fOp, fTest, fNotT, fAndT, fOrT, fAndV, fOrV, fNotV, fDef, fCall, fIsi, fChain, hTup, hCons, hNil, hName, bindO_s, pairO_s, fYes_s, gSkip_s, List.getElem?_cons_zero, List.getElem?_cons_succ, List.map_cons, List.map_nil, List.cons_append, List.nil_append, List.replicate, List.set_cons_zero, List.set_cons_succ, Nat.sub_self, Nat.reduceSub]
      simp only [show ∀ l, isK (.tup l) "tuple" = true from fun _ => rfl, gLen, pairO_s, gNe_int, Bool.not_true, List.length_cons, e, bindO_s]
      rfl
  | _ => rfl)
def TabsOk (M : Mem) : D → Prop
  | .tup ts => ∀ t ∈ ts, TabOk M t
  | _ => True
theorem v_ltabs {d : D} {M : Mem} (hs : TabsOk M d) : f__law_are_tables [d] M = some (.bl (tabsB d), M) := defD_rt rfl (by
  unfold g__law_are_tables
  cases d with
  | tup cs =>
    have ei2 : fIsi "tuple" (fV 0) [some (.tup cs), none] M = some (.bl true, M) := rfl
    have ec : fChain gLeI gLeI (fC (.int 1)) (fCall gLen (fCons (fV 0) fNil)) (fC (.int 6)) [some (.tup cs), none] M = some (.bl (decide (1 ≤ cs.length) && decide (cs.length ≤ 6)), M) := by
      have ek : fV 0 [some (.tup cs), none] M = some (.tup cs, M) := rfl
      unfold fChain fCall fCons
      simp only [bindO_s, fC_s]
      rw [ek]
      simp only [bindO_s, fC_s, fNil_s, gLen, pairO_s, gLeI, gII, ite_true]
      by_cases a1 : 1 ≤ cs.length
      · simp only [show decide ((1 : Int) ≤ (cs.length : Int)) = true from decide_eq_true (by omega), decide_eq_true a1, Bool.true_and]
        by_cases a2 : cs.length ≤ 6
        · simp only [show decide ((cs.length : Int) ≤ 6) = true from decide_eq_true (by omega), decide_eq_true a2]
        · simp only [show decide ((cs.length : Int) ≤ 6) = false from decide_eq_false (by omega), decide_eq_false a2]
      · simp only [show decide ((1 : Int) ≤ (cs.length : Int)) = false from decide_eq_false (by omega), decide_eq_false a1, Bool.false_and]
    simp only [gSeq, gIf, fOrT, fNotT, fTest, List.map_cons, List.map_nil, List.cons_append, List.nil_append, List.replicate, Nat.reduceSub, ei2, ec, bindO_s, Bool.not_true]
    cases hlen : (decide (1 ≤ cs.length) && decide (cs.length ≤ 6)) with
    | false =>
      simp only [Bool.not_false, gRet, fC_s, bindO_s]
      simp [tabsB, manyB, hlen]
    | true =>
      have a2 : cs.length ≤ 6 := by
        simp only [Bool.and_eq_true, decide_eq_true_eq] at hlen
        exact hlen.2
      have eb := bad_eq (f := f__law_is_table) (B := tabB) (fi := iVal (fV 0)) (env := [some (.tup cs), none]) (M := M) (cs := cs) (by simp) rfl (by omega) fun c m => v_ltab (hs c m)
      simp only [Bool.not_true, bindO_s, gSkip_s]
      rw [eb]
      simp only [bindO_s]
      cases ha : cs.all tabB with
      | false =>
        simp only [Bool.not_false, gRet, fC_s, bindO_s]
        simp [tabsB, manyB, ha]
      | true =>
        have eh := heads_eq (fi := iVal (fV 0)) (j := 1) (n := 0) (env := [some (.tup cs), none]) (M := M) (by simp) rfl (by omega) fun c m => tabB_headed (List.all_eq_true.mp ha c m)
        have e2 : fCall gLen (fCons (fV 0) fNil) [some (.tup cs), none] M = some (.int cs.length, M) := rfl
        simp only [Bool.not_true, gSkip_s, bindO_s, gRet]
        show bindO (bindO (fLenSet (fLc (iVal (fV 0)) [1] (hName 1) fYes (fOp gIx (fV 1) (fC (.int 0)))) [some (.tup cs), none] M) fun x M1 => bindO (fCall gLen (fCons (fV 0) fNil) [some (.tup cs), none] M1) fun y M2 => pairO (gEq M2 x y) M2) _ = _
        rw [eh]
        simp only [bindO_s, e2, gEq_int, pairO_s]
        simp only [Bool.and_eq_true, decide_eq_true_eq] at hlen
        simp [tabsB, manyB, ha, hlen.1, hlen.2, unl]
  | _ => rfl)
theorem ColsOk.small {M : Mem} {d : D} (h : ColsOk M d) : SmallCs d := by
  cases d with
  | tup cs => exact fun c m => (h c m).small
  | _ => trivial
theorem TabOk.small {M : Mem} {d : D} (h : TabOk M d) : SmallT d := by
  unfold TabOk at h
  split at h
  · exact ⟨h.1, h.2.1.small, h.2.2.1⟩
  · rename_i hn
    unfold SmallT
    split
    · rename_i n k v
      exact absurd rfl (hn n k v)
    · trivial
theorem TabsOk.small {M : Mem} {d : D} (h : TabsOk M d) : SmallTs d := by
  cases d with
  | tup cs => exact fun c m => (h c m).small
  | _ => trivial
/-- the two looks are the same -/
theorem looks {d : D} {M : Mem} (hs : TabsOk M d) : ∃ b, f_are_tables [d] M = some (.bl b, M) ∧ f__law_are_tables [d] M = some (.bl b, M) := ⟨tabsB d, v_tabs hs.small M, v_ltabs hs⟩
end K01

-- K01Q
namespace PV
open PySem PySem.Spec PyProof.Rows L2
/-! ### lists that stay as they are -/
abbrev Cst := List (Nat × List D)
def Has (M : Mem) (C : Cst) : Prop := ∀ p ∈ C, M[p.1]? = some (.lst p.2)
theorem Has.ext {M : Mem} {C : Cst} (h : Has M C) (l : Mem) : Has (M ++ l) C := fun p m => by
  have e := h p m
  rw [List.getElem?_append_left (List.getElem?_eq_some_iff.mp e).1]
  exact e
theorem Has.nil {M : Mem} : Has M [] := fun _ m => (List.not_mem_nil m).elim
theorem Has.cons {M : Mem} {C : Cst} {n : Nat} {xs : List D} (e : M[n]? = some (.lst xs)) (h : Has M C) : Has M ((n, xs) :: C) := fun p m => by
  rcases List.mem_cons.mp m with rfl | m
  · exact e
  · exact h p m
theorem Has.app {M : Mem} {C C' : Cst} (h : Has M C) (h' : Has M C') : Has M (C ++ C') := fun p m => (List.mem_append.mp m).elim (h p) (h' p)
theorem mem_at (M l : Mem) (i : Nat) : (M ++ l)[M.length + i]? = l[i]? := by
  rw [List.getElem?_append_right (Nat.le_add_right _ _), Nat.add_sub_cancel_left]
theorem mem_at0 (M l : Mem) : (M ++ l)[M.length]? = l[0]? := mem_at M l 0
/-- what is shown of a thing: so deep, so long -/
structure ShL (C : Cst) (d : D) (k L : Nat) (q : PyData) : Prop where
  to : ∀ M, Has M C → ∀ n, k ≤ n → toQ M n d = some q
  sh : q.showable = true
  dp : q.depth ≤ k
  ln : q.shown.length ≤ L
theorem ShL.mono {C : Cst} {d : D} {k L k' L' : Nat} {q : PyData} (h : ShL C d k L q) (hk : k ≤ k') (hL : L ≤ L') : ShL C d k' L' q :=
  ⟨fun M hM n hn => h.to M hM n (Nat.le_trans hk hn), h.sh, Nat.le_trans h.dp hk, Nat.le_trans h.ln hL⟩
theorem ShL.sub {C C' : Cst} {d : D} {k L : Nat} {q : PyData} (h : ShL C d k L q) (hc : ∀ p ∈ C, p ∈ C') : ShL C' d k L q := ⟨fun M hM => h.to M fun p m => hM p (hc p m), h.sh, h.dp, h.ln⟩
def toF : D → PyData
  | .bl b => .bool b
  | .int i => .int i
  | .str x => .str x
  | _ => .none
theorem toQ_flat {d : D} (h : flatD d = true) (M : Mem) (n : Nat) : toQ M n d = some (toF d) := by
  cases d <;> first | (cases n <;> rfl) | cases h
theorem ShL.flat {C : Cst} {d : D} {L : Nat} (h : flatD d = true) (hs : (toF d).showable = true) (hl : (toF d).shown.length ≤ L) : ShL C d 0 L (toF d) :=
  ⟨fun M _ n _ => toQ_flat h M n, hs, by cases d <;> simp [toF, PyData.depth], hl⟩
theorem ShL.emp {C : Cst} : ShL C .emp 1 2 (.dict []) := ⟨fun M _ n _ => by cases n <;> rfl, rfl, by simp [PyData.depth, PyData.depthKv], by decide +kernel⟩
/-- of all of some things -/
theorem shL_all {C : Cst} {k L : Nat} : ∀ {ds : List D}, (∀ d ∈ ds, ∃ q, ShL C d k L q) → ∃ qs : List PyData, (∀ M, Has M C → ∀ n, k ≤ n → toPL (toQ M n) ds = some qs) ∧ PyData.showableAll qs = true ∧ PyData.depthAll qs ≤ k ∧
    ((PyData.shownAll qs).map (·.length)).sum ≤ ds.length * L ∧ (PyData.shownAll qs).length = ds.length
  | [], _ => ⟨[], fun _ _ _ _ => rfl, rfl, Nat.zero_le _, by simp [PyData.shownAll], by simp [PyData.shownAll]⟩
  | d :: r, h => by
    obtain ⟨q, hq⟩ := h d List.mem_cons_self
    obtain ⟨qs, h1, h2, h3, h4, h5⟩ := shL_all fun e m => h e (List.mem_cons_of_mem _ m)
    refine ⟨q :: qs, fun M hM n hn => ?_, ?_, ?_, ?_, ?_⟩
    · simp only [toPL, hq.to M hM n hn, h1 M hM n hn]
    · simp [PyData.showableAll, hq.sh, h2]
    · simp only [PyData.depthAll]
      exact Nat.max_le.mpr ⟨hq.dp, h3⟩
    · simp only [PyData.shownAll, List.map_cons, List.sum_cons, List.length_cons, Nat.succ_mul]
      have := hq.ln
      omega
    · simp [PyData.shownAll, h5]
theorem ShL.tup {C : Cst} {k L : Nat} {ds : List D} (h : ∀ d ∈ ds, ∃ q, ShL C d k L q) : ∃ q, ShL C (.tup ds) (k + 1) (ds.length * (L + 2) + 3) q := by
  obtain ⟨qs, h1, h2, h3, h4, h5⟩ := shL_all h
  refine ⟨.tuple qs, fun M hM n hn => ?_, by rw [PyData.showable]; exact h2, by rw [PyData.depth]; omega, ?_⟩
  · cases n with
    | zero => omega
    | succ n => simp only [toQ, h1 M hM n (by omega)]
  · rw [PyData.shown]
    have z := tupleText_len_le (PyData.shownAll qs)
    rw [h5] at z
    have : ds.length * (L + 2) = ds.length * L + 2 * ds.length := by rw [Nat.mul_add, Nat.mul_comm ds.length 2]
    omega
theorem ShL.ref {C : Cst} {k L n : Nat} {ds : List D} (hn : (n, ds) ∈ C) (h : ∀ d ∈ ds, ∃ q, ShL C d k L q) : ∃ q, ShL C (.ref n) (k + 1) (ds.length * (L + 2) + 3) q := by
  obtain ⟨qs, h1, h2, h3, h4, h5⟩ := shL_all h
  refine ⟨.list qs, fun M hM m hm => ?_, by rw [PyData.showable]; exact h2, by rw [PyData.depth]; omega, ?_⟩
  · cases m with
    | zero => omega
    | succ m =>
      have e := hM _ hn
      simp only at e
      simp only [toQ, e, h1 M hM m (by omega)]
  · rw [PyData.shown]
    have z := listText_len_le (PyData.shownAll qs)
    rw [h5] at z
    have : ds.length * (L + 2) = ds.length * L + 2 * ds.length := by rw [Nat.mul_add, Nat.mul_comm ds.length 2]
    omega
theorem trim_cases (n : Nat) (d : D) (M : Mem) : trim n d M = (d, M) ∨ (trim n d M = (d, M.take n) ∧ flatD d = true) := by
  unfold trim
  split
  · rename_i h
    exact .inr ⟨rfl, h.1⟩
  · exact .inl rfl
/-- what is no flat thing is told as it is -/
theorem trim_deep {n : Nat} {d : D} {M : Mem} (h : flatD d = false) : trim n d M = (d, M) := by
  unfold trim
  rw [if_neg fun z => by rw [h] at z; cases z.1]
end PV
namespace K01
open PySem PySem.Spec PyProof.Rows L2 PV
def words4 : List Str := kinds ++ rules
/-- a thing that may stand as a kind, as a rule -/
def Kd (C : Cst) (d : D) : Prop := Small d ∧ ∃ q, ShL C d 3 200 q ∧ ∀ w ∈ words4, decide (q.shown = reprText w) = isS w d
theorem Kd.shows {C : Cst} {d : D} {M : Mem} (h : Kd C d) (hM : Has M C) {ws : List Str} (hw : ∀ w ∈ ws, w ∈ words4) : Shows M ws d := by
  obtain ⟨_, q, h1, h2⟩ := h
  exact ⟨q, h1.to M hM 60 (by decide), h1.sh, Nat.le_trans h1.dp (by decide), Nat.le_trans h1.ln (by decide), fun w m => h2 w (hw w m)⟩
theorem Kd.sub {C C' : Cst} {d : D} (h : Kd C d) (hc : ∀ p ∈ C, p ∈ C') : Kd C' d := by
  obtain ⟨h0, q, h1, h2⟩ := h
  exact ⟨h0, q, h1.sub hc, h2⟩
def okFlat (d : D) : Bool := flatD d && (toF d).showable && decide ((toF d).shown.length ≤ 100) && words4.all (fun w => decide ((toF d).shown = reprText w) == isS w d) && (match d with | .str z => decide (z.length ≤ 100000) | _ => true)
theorem okFlat_kd {C : Cst} {d : D} (h : okFlat d = true) : Kd C d := by
  simp only [okFlat, Bool.and_eq_true, decide_eq_true_eq] at h
  obtain ⟨⟨⟨⟨h1, h2⟩, h3⟩, h4⟩, h5⟩ := h
  refine ⟨?_, toF d, (ShL.flat h1 h2 h3).mono (by decide) (by decide), fun w m => eq_of_beq (List.all_eq_true.mp h4 w m)⟩
  cases d with
  | str z =>
    have z5 : z.length ≤ 100000 := by simpa using h5
    exact z5
  | _ => trivial
def oddFlat : List D := [.non, .bl true, .bl false, .str "", .str "a", .int 5, .int (-1), .str "Ann", .int (10 ^ 30), .str "toolongword"]
theorem oddFlat_ok : oddFlat.all okFlat = true := by decide +kernel
inductive Odd (C : Cst) : D → Prop
  | flat {d : D} (h : d ∈ oddFlat) : Odd C d
  | nilT : Odd C (.tup [])
  | emp : Odd C .emp
  | aT : Odd C (.tup [.str "a"])
  | zT : Odd C (.tup [.int 0])
  | nilL {n : Nat} (h : (n, []) ∈ C) : Odd C (.ref n)
  | rowL {n : Nat} (h : (n, [.tup [.str "a", .str "row"]]) ∈ C) : Odd C (.ref n)
theorem Odd.sub {C C' : Cst} {d : D} (h : Odd C d) (hc : ∀ p ∈ C, p ∈ C') : Odd C' d := by
  cases h with
  | flat h => exact .flat h
  | nilT => exact .nilT
  | emp => exact .emp
  | aT => exact .aT
  | zT => exact .zT
  | nilL h => exact .nilL (hc _ h)
  | rowL h => exact .rowL (hc _ h)
def okQ (q : PyData) (d : D) : Bool := q.showable && decide (q.depth ≤ 3) && decide (q.shown.length ≤ 200) && words4.all (fun w => decide (q.shown = reprText w) == isS w d)
theorem okQ_kd {C : Cst} {d : D} (q : PyData) (hs : Small d) (h : okQ q d = true) (hq : ∀ M, Has M C → ∀ n, toQ M (n + 3) d = some q) : Kd C d := by
  simp only [okQ, Bool.and_eq_true, decide_eq_true_eq] at h
  obtain ⟨⟨⟨h1, h2⟩, h3⟩, h4⟩ := h
  exact ⟨hs, q, ⟨fun M hM n hn => by
    obtain ⟨m, rfl⟩ : ∃ m, n = m + 3 := ⟨n - 3, by omega⟩
    exact hq M hM m, h1, h2, h3⟩, fun w m => eq_of_beq (List.all_eq_true.mp h4 w m)⟩
theorem Odd.kd {C : Cst} {d : D} (h : Odd C d) : Kd C d := by
  cases h with
  | flat h => exact okFlat_kd (List.all_eq_true.mp oddFlat_ok _ h)
  | nilT => exact okQ_kd (.tuple []) trivial (by decide +kernel) fun _ _ _ => rfl
  | emp => exact okQ_kd (.dict []) trivial (by decide +kernel) fun _ _ _ => rfl
  | aT => exact okQ_kd (.tuple [.str "a"]) trivial (by decide +kernel) fun _ _ _ => rfl
  | zT => exact okQ_kd (.tuple [.int 0]) trivial (by decide +kernel) fun _ _ _ => rfl
  | nilL h =>
    refine okQ_kd (.list []) trivial ?_ fun M hM n => ?_
    · exact (show okQ (.list []) (.ref 0) = true by decide +kernel)
    · have e := hM _ h
      simp only at e
      simp only [toQ, e]
      rfl
  | rowL h =>
    refine okQ_kd (.list [.tuple [.str "a", .str "row"]]) trivial ?_ fun M hM n => ?_
    · exact (show okQ (.list [.tuple [.str "a", .str "row"]]) (.ref 0) = true by decide +kernel)
    · have e := hM _ h
      simp only at e
      simp only [toQ, e]
      rfl
theorem Odd.col {C : Cst} {d : D} (h : Odd C d) (M : Mem) : ColOk M d ∧ ColsOk M d ∧ TabOk M d ∧ TabsOk M d := by
  cases h with
  | flat h =>
    have z := List.all_eq_true.mp oddFlat_ok _ h
    cases d with
    | tup _ => cases z
    | _ => exact ⟨trivial, trivial, trivial, trivial⟩
  | aT =>
    refine ⟨trivial, fun c m => ?_, trivial, fun c m => ?_⟩ <;>
    · have : c = .str "a" := by simpa using m
      subst this
      trivial
  | zT =>
    refine ⟨trivial, fun c m => ?_, trivial, fun c m => ?_⟩ <;>
    · have : c = .int 0 := by simpa using m
      subst this
      trivial
  | nilT => exact ⟨trivial, fun c m => (List.not_mem_nil m).elim, trivial, fun c m => (List.not_mem_nil m).elim⟩
  | _ => exact ⟨trivial, trivial, trivial, trivial⟩
end K01

-- K01R
namespace K01
open PySem PySem.Spec PyProof.Rows L2 PV
def list15 (n : Nat) : List D := [.non, .bl true, .bl false, .str "", .str "a", .int 5, .int (-1), .tup [], .ref n, .emp, .tup [.str "a"], .ref (n + 1), .str "Ann", .int (10 ^ 30), .str "toolongword"]
theorem odd_list (env : Vars) (M : Mem) : (fNote (fLst (fCons (fC .non) (fCons (fC (.bl true)) (fCons (fC (.bl false)) (fCons (fC (.str "")) (fCons (fC (.str "a")) (fCons (fC (.int 5)) (fCons (fNeg (fC (.int 1))) (fCons (fTup fNil) (fCons (fNote (fLst fNil)) (fCons (fC .emp) (fCons (fTup (fCons (fC (.str "a")) fNil)) (fCons (fNote (fLst (fCons (fTup (fCons (fC (.str "a")) (fCons (fC (.str "row")) fNil))) fNil))) (fCons (fC (.str "Ann")) (fCons (fOp gPowI (fC (.int 10)) (fC (.int 30))) (fCons (fC (.str "toolongword")) fNil))))))))))))))))) env M
    = some (.ref (M.length + 2), M ++ [.lst [], .lst [.tup [.str "a", .str "row"]], .lst (list15 M.length)]) := by
  have eT : fTup fNil env = fun M => some (D.tup [], M) := rfl
  have eN : fNeg (fC (.int 1)) env = fun M => some (D.int (-1), M) := rfl
  have eA : fTup (fCons (fC (.str "a")) fNil) env = fun M => some (D.tup [.str "a"], M) := rfl
  have eL : fNote (fLst fNil) env = fun M => some (D.ref M.length, M ++ [.lst []]) := rfl
  have eR : fNote (fLst (fCons (fTup (fCons (fC (.str "a")) (fCons (fC (.str "row")) fNil))) fNil)) env = fun M => some (D.ref M.length, M ++ [.lst [.tup [.str "a", .str "row"]]]) := rfl
  have eP : fOp gPowI (fC (.int 10)) (fC (.int 30)) env = fun M => some (D.int (10 ^ 30), M) := by
    funext M
    unfold fOp
    simp only [fC_s, bindO_s, gPowI, gII]
    rw [if_pos (by decide)]
    rfl
  rw [fNote, fLst]
  simp only [fCons, fC_s, fNil_s, bindO_s, eT, eN, eA, eL, eR, eP]
  rw [if_pos (by simp)]
  simp only [bindO_s]
  simp [list15, List.append_assoc]
theorem x_odd {i : Int} (hi : 0 ≤ i) (M : Mem) : ∃ d l C, f__law_odd [.int i] M = some (d, M ++ l) ∧ Odd C d ∧ Has (M ++ l) C := by
  have hr : 0 ≤ i % 16 ∧ i % 16 < 16 := ⟨Int.emod_nonneg _ (by decide), Int.emod_lt_of_pos _ (by decide)⟩
  obtain ⟨j, hj⟩ : ∃ j : Nat, i % 16 = (j : Nat) := ⟨(i % 16).toNat, by omega⟩
  have hj16 : j < 16 := by omega
  let l3 : Mem := [.lst [], .lst [.tup [.str "a", .str "row"]], .lst (list15 M.length)]
  have hd : j < (list15 M.length ++ [D.tup [.int 0]]).length := hj16
  have hg : g__law_odd [some (.int i), none] M = some (.rt (list15 M.length ++ [D.tup [.int 0]])[j], M ++ l3) := by
    unfold g__law_odd
    simp only [gSeq, gSet, gRet]
    rw [odd_list]
    simp only [bindO_s, List.set_cons_succ, List.set_cons_zero]
    unfold fIxF fCatR
    have e0 : fV 1 [some (.int i), some (.ref (M.length + 2))] (M ++ l3) = some (.ref (M.length + 2), M ++ l3) := rfl
    have e1 : fLst (fCons (fTup (fCons (fC (.int 0)) fNil)) fNil) [some (.int i), some (.ref (M.length + 2))] (M ++ l3) = some ([.tup [.int 0]], M ++ l3) := rfl
    have e2 : (M ++ l3)[M.length + 2]? = some (.lst (list15 M.length)) := mem_at M l3 2
    have e3 : fOp gModI (fV 0) (fC (.int 16)) [some (.int i), some (.ref (M.length + 2))] (M ++ l3) = some (.int (i % 16), M ++ l3) := rfl
    show bindO (bindO (bindO (fV 1 [some (.int i), some (.ref (M.length + 2))] (M ++ l3)) _) _) _ = _
    rw [e0]
    simp only [bindO_s, e1, e2]
    rw [if_pos (by simp [list15])]
    simp only [bindO_s, e3, hj]
    rw [L2.atI_nat (List.getElem?_eq_getElem hd)]
    rfl
  have hO : Odd [(M.length, []), (M.length + 1, [.tup [.str "a", .str "row"]])] (list15 M.length ++ [D.tup [.int 0]])[j] := by
    have : ∀ d ∈ (list15 M.length ++ [D.tup [.int 0]]), Odd [(M.length, []), (M.length + 1, [.tup [.str "a", .str "row"]])] d := by
      intro d m
      simp only [list15, List.cons_append, List.nil_append, List.mem_cons, List.not_mem_nil, or_false] at m
      rcases m with rfl | rfl | rfl | rfl | rfl | rfl | rfl | rfl | rfl | rfl | rfl | rfl | rfl | rfl | rfl | rfl
      all_goals first | exact .nilT | exact .emp | exact .aT | exact .zT | exact .nilL (List.Mem.head _) | exact .rowL (List.Mem.tail _ (List.Mem.head _)) | (refine .flat ?_; unfold oddFlat; repeat (first | exact List.Mem.head _ | apply List.Mem.tail))
    exact this _ (List.getElem_mem hd)
  have hH : Has (M ++ l3) [(M.length, []), (M.length + 1, [.tup [.str "a", .str "row"]])] := .cons (mem_at0 M l3) (.cons (mem_at M l3 1) .nil)
  have hf : f__law_odd [.int i] M = some (trim M.length (list15 M.length ++ [D.tup [.int 0]])[j] (M ++ l3)) := by
    unfold f__law_odd defD
    rw [if_pos (show [D.int i].length = 1 from rfl)]
    show bindO (g__law_odd [some (.int i), none] M) _ = _
    rw [hg]
    rfl
  rcases trim_cases M.length (list15 M.length ++ [D.tup [.int 0]])[j] (M ++ l3) with h | ⟨h, hu⟩
  · exact ⟨_, l3, _, by rw [hf, h], hO, hH⟩
  · rw [List.take_left] at h
    refine ⟨_, [], [], by rw [hf, h, List.append_nil], ?_, .nil⟩
    revert hu hO
    generalize (list15 M.length ++ [D.tup [.int 0]])[j] = d
    intro hO hu
    cases hO with
    | flat h => exact .flat h
    | _ => cases hu
end K01

-- K01S
namespace PV
open PySem PySem.Spec PyProof.Rows L2
/-- a loop that goes to its end -/
theorem forD_inv {h : FG} {f : FS} (P : Nat → Vars → Mem → Prop) : ∀ (xs : List D) (j : Nat) (env : Vars) (M : Mem), P j env M →
    (∀ i d env M, xs[i]? = some d → P (j + i) env M → ∃ env1 env2 M2, h d env = some env1 ∧ (f env1 M = some (.nx env2, M2) ∨ f env1 M = some (.ct env2, M2)) ∧ P (j + i + 1) env2 M2) →
    ∃ env' M', forD h f yes xs env M = some (.nx env', M') ∧ P (j + xs.length) env' M'
  | [], j, env, M, h0, _ => ⟨env, M, rfl, h0⟩
  | d :: r, j, env, M, h0, H => by
    obtain ⟨env1, env2, M2, e1, e2, h2⟩ := H 0 d env M rfl h0
    obtain ⟨env', M', e3, h3⟩ := forD_inv P r (j + 1) env2 M2 h2 fun i d' en Mn hd hp => by
      have z := H (i + 1) d' en Mn hd (by rw [show j + (i + 1) = j + 1 + i by omega]; exact hp)
      rw [show j + (i + 1) + 1 = j + 1 + i + 1 by omega] at z
      exact z
    refine ⟨env', M', ?_, by rw [List.length_cons, show j + (r.length + 1) = j + 1 + r.length by omega]; exact h3⟩
    unfold forD
    rw [show yes M = true from rfl]
    simp only [e1]
    rcases e2 with e2 | e2 <;> (rw [e2]; exact e3)
end PV
namespace K01
open PySem PySem.Spec PyProof.Rows L2 PV
theorem small_of {a : Int} (h : -1000000 ≤ a ∧ a ≤ 1000000) : smallI a = true := by
  unfold smallI
  rw [decide_eq_true (by omega), decide_eq_true (by omega)]
  rfl
theorem mulA {M : Mem} {a b : Int} (h : smallI a = true ∨ smallI b = true) : gMulA M (.int a) (.int b) = some (.int (a * b)) := by
  have e : gMulI M (.int a) (.int b) = some (.int (a * b)) := by
    show (if (smallI a || smallI b) = true then some (D.int (a * b)) else none) = _
    rw [if_pos (by rcases h with h | h <;> simp [h])]
  unfold gMulA gMul orO
  rw [e]
theorem modI {M : Mem} {a b : Int} (h : 0 < b) : gModI M (.int a) (.int b) = some (.int (a % b)) := by
  show (if decide (0 < b) = true then some (D.int (a % b)) else none) = _
  rw [if_pos (decide_eq_true h)]
theorem divI {M : Mem} {a b : Int} (h : 0 < b) (h2 : b < 1073741824) : gDivI M (.int a) (.int b) = some (.int (a / b)) := by
  show (if (decide (0 < b) && decide (b < 1073741824)) = true then some (D.int (a / b)) else none) = _
  rw [if_pos (by simp [h, h2])]
theorem powI {M : Mem} {a : Int} {n : Nat} (h : n ≤ 1000000) (h2 : a.natAbs < 2 ^ 64) : gPowI M (.int a) (.int (n : Nat)) = some (.int (a ^ n)) := by
  show (if (decide (0 ≤ (n : Int)) && decide ((n : Int) ≤ 1000000) && decide (a.natAbs < 2 ^ 64)) = true then some (D.int (a ^ (n : Int).toNat)) else none) = _
  rw [if_pos (by
    rw [decide_eq_true (by omega), decide_eq_true (by omega), decide_eq_true h2]
    rfl)]
  rfl
theorem addI {M : Mem} {a b : Int} : gAdd M (.int a) (.int b) = some (.int (a + b)) := rfl
/-- a list's append, by values -/
theorem append_eq {fo f : FE} {env : Vars} {M M1 M2 : Mem} {n : Nat} {d : D} {xs : List D} (ho : fo env M = some (.ref n, M1)) (hf : f env M1 = some (d, M2)) (hx : M2[n]? = some (.lst xs)) (hl : xs.length < 100000) :
    fAppend fo f env M = some (.non, M2.set n (.lst (xs ++ [d]))) := by
  unfold fAppend
  rw [ho]
  simp only [bindO_s]
  rw [hf]
  simp only [bindO_s, hx]
  rw [if_pos hl]
theorem set_end (M : Mem) (x y : Ob) : (M ++ [x]).set M.length y = M ++ [y] := by
  rw [List.set_append_right _ _ (Nat.le_refl _), Nat.sub_self]
  rfl
def numBody : FS := gIf (fAndT (fTest (fOp gGeI (fV 3) (fOp gPowI (fC (.int 10)) (fC (.int 18))))) (fTest (fOp gGtI (fV 4) (fC (.int 0))))) (gSeq (gDrop (fAppend (fV 5) (fOp gModI (fV 4) (fOp gIx (fV 2) (fV 6)))))
  (gSet (fOp gDivI (fV 4) (fOp gIx (fV 2) (fV 6))) 4)) (gSeq (gSet (fOp gModI (fOp gPowI (fOp gAdd (fOp gAdd (fOp gModI (fV 3) (fC (.int 2147483629))) (fOp gMulA (fC (.int 7919)) (fV 1))) (fC (.int 1))) (fC (.int 3))) (fC (.int 2147483647))) 7)
  (gSeq (gSet (fOp gModI (fOp gMulA (fOp gAdd (fV 7) (fOp gMulA (fC (.int 104729)) (fOp gAdd (fV 6) (fC (.int 1))))) (fOp gAdd (fV 6) (fC (.int 3)))) (fC (.int 2147483629))) 7)
  (gSeq (gSet (fOp gModI (fOp gMulA (fOp gModI (fOp gPowI (fV 7) (fC (.int 5))) (fC (.int 2147483647))) (fC (.int 48271))) (fC (.int 2147483629))) 7)
  (gDrop (fAppend (fV 5) (fOp gModI (fOp gDivI (fV 7) (fC (.int 16))) (fOp gIx (fV 2) (fV 6))))))))
theorem num_step (c s N L : Int) (hs : 0 ≤ s ∧ s ≤ 100000) {M : Mem} {a : Nat} (ha : M[a]? = some (.lst (List.replicate 60 (.int 420)))) {k : Nat} (hk : k < 60) (o : Option D) (ds : List Int) (hl : ds.length = k) (hd : ∀ x ∈ ds, 0 ≤ x ∧ x < 420) :
    ∃ L' o' x, 0 ≤ x ∧ x < 420 ∧ numBody [some (.int c), some (.int s), some (.ref a), some (.int N), some (.int L), some (.ref M.length), some (.int (k : Nat)), o] (M ++ [.lst (ds.map .int)])
      = some (.nx [some (.int c), some (.int s), some (.ref a), some (.int N), some (.int L'), some (.ref M.length), some (.int (k : Nat)), o'], M ++ [.lst ((ds ++ [x]).map .int)]) := by
  have hM : (M ++ [Ob.lst (ds.map D.int)])[a]? = some (.lst (List.replicate 60 (.int 420))) := by
    rw [List.getElem?_append_left (List.getElem?_eq_some_iff.mp ha).1]
    exact ha
  have hIx : gIx (M ++ [Ob.lst (ds.map D.int)]) (.ref a) (.int (k : Nat)) = some (.int 420) := by
    show (match (M ++ [Ob.lst (ds.map D.int)])[a]? with
      | some (.lst xs) => L2.atI xs (k : Nat)
      | none => none) = _
    rw [hM]
    exact L2.atI_nat (by rw [List.getElem?_replicate, if_pos hk])
  have hE : (M ++ [Ob.lst (ds.map D.int)])[M.length]? = some (.lst (ds.map D.int)) := mem_at0 M _
  have hlen : (ds.map D.int).length < 100000 := by rw [List.length_map]; omega
  have hpow : ∀ M', gPowI M' (.int 10) (.int 18) = some (.int (10 ^ 18)) := fun M' => powI (n := 18) (by decide) (by decide)
  unfold numBody gIf
  have q : ∀ o, fAndT (fTest (fOp gGeI (fV 3) (fOp gPowI (fC (.int 10)) (fC (.int 18))))) (fTest (fOp gGtI (fV 4) (fC (.int 0)))) [some (.int c), some (.int s), some (.ref a), some (.int N), some (.int L), some (.ref M.length), some (.int (k : Nat)), o] (M ++ [.lst (ds.map .int)])
      = some (decide ((10 : Int) ^ 18 ≤ N) && decide (0 < L), M ++ [.lst (ds.map .int)]) := by
    intro o
    simp only [gRet, gSeq, gIf, gSet, gAsg, gPar, gDrop, fV, fC_s, fCons, fNil_s, fOp, fTest, fNotT, fAndT, fOrT, fAndV, fOrV, fNotV, fDef, fCall, fIsi, fChain, hTup, hCons, hNil, hName, bindO_s, pairO_s, fYes_s, gSkip_s, List.getElem?_cons_zero, List.getElem?_cons_succ, List.map_cons, List.map_nil, List.cons_append, List.nil_append, List.replicate, List.set_cons_zero, List.set_cons_succ, Nat.sub_self, Nat.reduceSub]
    simp only [hpow, pairO_s, bindO_s, gGeI, gGtI, gII, if_true]
    cases decide ((10 : Int) ^ 18 ≤ N) <;> simp
  rw [q]
  simp only [bindO_s]
  cases hq : (decide ((10 : Int) ^ 18 ≤ N) && decide (0 < L)) with
  | true =>
    refine ⟨L / 420, o, L % 420, Int.emod_nonneg _ (by decide), Int.emod_lt_of_pos _ (by decide), ?_⟩
    simp only []
    have e := append_eq (fo := fV 5) (f := fOp gModI (fV 4) (fOp gIx (fV 2) (fV 6))) (env := [some (.int c), some (.int s), some (.ref a), some (.int N), some (.int L), some (.ref M.length), some (.int (k : Nat)), o]) (M := M ++ [.lst (ds.map .int)]) (M2 := M ++ [.lst (ds.map .int)]) (d := .int (L % 420)) rfl (by
      simp only [gRet, gSeq, gIf, gSet, gAsg, gPar, gDrop, fV, fC_s, fCons, fNil_s, fOp, fTest, fNotT, fAndT, fOrT, fAndV, fOrV, fNotV, fDef, fCall, fIsi, fChain, hTup, hCons, hNil, hName, bindO_s, pairO_s, fYes_s, gSkip_s, List.getElem?_cons_zero, List.getElem?_cons_succ, List.map_cons, List.map_nil, List.cons_append, List.nil_append, List.replicate, List.set_cons_zero, List.set_cons_succ, Nat.sub_self, Nat.reduceSub]
      simp only [hIx, bindO_s, pairO_s]
      rw [modI (by decide)]
      rfl) hE hlen
    unfold gSeq gDrop
    rw [e, set_end]
    have hM2 : (M ++ [Ob.lst (ds.map D.int ++ [D.int (L % 420)])])[a]? = some (.lst (List.replicate 60 (.int 420))) := by
      rw [List.getElem?_append_left (List.getElem?_eq_some_iff.mp ha).1]
      exact ha
    have hIx2 : gIx (M ++ [Ob.lst (ds.map D.int ++ [D.int (L % 420)])]) (.ref a) (.int (k : Nat)) = some (.int 420) := by
      show (match (M ++ [Ob.lst (ds.map D.int ++ [D.int (L % 420)])])[a]? with
        | some (.lst xs) => L2.atI xs (k : Nat)
        | none => none) = _
      rw [hM2]
      exact L2.atI_nat (by rw [List.getElem?_replicate, if_pos hk])
    simp only [gRet, gSeq, gIf, gSet, gAsg, gPar, gDrop, fV, fC_s, fCons, fNil_s, fOp, fTest, fNotT, fAndT, fOrT, fAndV, fOrV, fNotV, fDef, fCall, fIsi, fChain, hTup, hCons, hNil, hName, bindO_s, pairO_s, fYes_s, gSkip_s, List.getElem?_cons_zero, List.getElem?_cons_succ, List.map_cons, List.map_nil, List.cons_append, List.nil_append, List.replicate, List.set_cons_zero, List.set_cons_succ, Nat.sub_self, Nat.reduceSub]
    simp only [hIx2, bindO_s, pairO_s]
    rw [divI (by decide) (by decide)]
    simp
  | false =>
    have h1 : 0 ≤ N % 2147483629 ∧ N % 2147483629 < 2147483629 := ⟨Int.emod_nonneg _ (by decide), Int.emod_lt_of_pos _ (by decide)⟩
    let o1 : Int := (N % 2147483629 + 7919 * s + 1) ^ 3 % 2147483647
    let o2 : Int := (o1 + 104729 * ((k : Int) + 1)) * ((k : Int) + 3) % 2147483629
    let o3 : Int := o2 ^ 5 % 2147483647 * 48271 % 2147483629
    have h2 : 0 ≤ o2 ∧ o2 < 2147483629 := ⟨Int.emod_nonneg _ (by decide), Int.emod_lt_of_pos _ (by decide)⟩
    refine ⟨L, some (.int o3), o3 / 16 % 420, Int.emod_nonneg _ (by decide), Int.emod_lt_of_pos _ (by decide), ?_⟩
    simp only []
    have s1 : fOp gModI (fOp gPowI (fOp gAdd (fOp gAdd (fOp gModI (fV 3) (fC (.int 2147483629))) (fOp gMulA (fC (.int 7919)) (fV 1))) (fC (.int 1))) (fC (.int 3))) (fC (.int 2147483647)) [some (.int c), some (.int s), some (.ref a), some (.int N), some (.int L), some (.ref M.length), some (.int (k : Nat)), o] (M ++ [.lst (ds.map .int)]) = some (.int o1, M ++ [.lst (ds.map .int)]) := by
      simp only [gRet, gSeq, gIf, gSet, gAsg, gPar, gDrop, fV, fC_s, fCons, fNil_s, fOp, fTest, fNotT, fAndT, fOrT, fAndV, fOrV, fNotV, fDef, fCall, fIsi, fChain, hTup, hCons, hNil, hName, bindO_s, pairO_s, fYes_s, gSkip_s, List.getElem?_cons_zero, List.getElem?_cons_succ, List.map_cons, List.map_nil, List.cons_append, List.nil_append, List.replicate, List.set_cons_zero, List.set_cons_succ, Nat.sub_self, Nat.reduceSub]
      rw [modI (by decide)]
      simp only [pairO_s, bindO_s]
      rw [mulA (.inl (by decide))]
      simp only [pairO_s, bindO_s, addI]
      rw [show (3 : Int) = ((3 : Nat) : Int) from rfl, powI (by decide) (by omega)]
      simp only [pairO_s, bindO_s]
      rw [modI (by decide)]
      rfl
    have s2 : fOp gModI (fOp gMulA (fOp gAdd (fV 7) (fOp gMulA (fC (.int 104729)) (fOp gAdd (fV 6) (fC (.int 1))))) (fOp gAdd (fV 6) (fC (.int 3)))) (fC (.int 2147483629)) [some (.int c), some (.int s), some (.ref a), some (.int N), some (.int L), some (.ref M.length), some (.int (k : Nat)), some (.int o1)] (M ++ [.lst (ds.map .int)]) = some (.int o2, M ++ [.lst (ds.map .int)]) := by
      simp only [gRet, gSeq, gIf, gSet, gAsg, gPar, gDrop, fV, fC_s, fCons, fNil_s, fOp, fTest, fNotT, fAndT, fOrT, fAndV, fOrV, fNotV, fDef, fCall, fIsi, fChain, hTup, hCons, hNil, hName, bindO_s, pairO_s, fYes_s, gSkip_s, List.getElem?_cons_zero, List.getElem?_cons_succ, List.map_cons, List.map_nil, List.cons_append, List.nil_append, List.replicate, List.set_cons_zero, List.set_cons_succ, Nat.sub_self, Nat.reduceSub]
      simp only [addI, pairO_s, bindO_s]
      rw [mulA (.inl (by decide))]
      simp only [addI, pairO_s, bindO_s]
      rw [mulA (.inr (small_of (by omega)))]
      simp only [pairO_s, bindO_s]
      rw [modI (by decide)]
      rfl
    have s3 : fOp gModI (fOp gMulA (fOp gModI (fOp gPowI (fV 7) (fC (.int 5))) (fC (.int 2147483647))) (fC (.int 48271))) (fC (.int 2147483629)) [some (.int c), some (.int s), some (.ref a), some (.int N), some (.int L), some (.ref M.length), some (.int (k : Nat)), some (.int o2)] (M ++ [.lst (ds.map .int)]) = some (.int o3, M ++ [.lst (ds.map .int)]) := by
      simp only [gRet, gSeq, gIf, gSet, gAsg, gPar, gDrop, fV, fC_s, fCons, fNil_s, fOp, fTest, fNotT, fAndT, fOrT, fAndV, fOrV, fNotV, fDef, fCall, fIsi, fChain, hTup, hCons, hNil, hName, bindO_s, pairO_s, fYes_s, gSkip_s, List.getElem?_cons_zero, List.getElem?_cons_succ, List.map_cons, List.map_nil, List.cons_append, List.nil_append, List.replicate, List.set_cons_zero, List.set_cons_succ, Nat.sub_self, Nat.reduceSub]
      rw [show (5 : Int) = ((5 : Nat) : Int) from rfl, powI (by decide) (by omega)]
      simp only [pairO_s, bindO_s]
      rw [modI (by decide)]
      simp only [pairO_s, bindO_s]
      rw [mulA (.inr (by decide))]
      simp only [pairO_s, bindO_s]
      rw [modI (by decide)]
      rfl
    have e := append_eq (fo := fV 5) (f := fOp gModI (fOp gDivI (fV 7) (fC (.int 16))) (fOp gIx (fV 2) (fV 6))) (env := [some (.int c), some (.int s), some (.ref a), some (.int N), some (.int L), some (.ref M.length), some (.int (k : Nat)), some (.int o3)]) (M := M ++ [.lst (ds.map .int)]) (M2 := M ++ [.lst (ds.map .int)]) (d := .int (o3 / 16 % 420)) rfl (by
      simp only [gRet, gSeq, gIf, gSet, gAsg, gPar, gDrop, fV, fC_s, fCons, fNil_s, fOp, fTest, fNotT, fAndT, fOrT, fAndV, fOrV, fNotV, fDef, fCall, fIsi, fChain, hTup, hCons, hNil, hName, bindO_s, pairO_s, fYes_s, gSkip_s, List.getElem?_cons_zero, List.getElem?_cons_succ, List.map_cons, List.map_nil, List.cons_append, List.nil_append, List.replicate, List.set_cons_zero, List.set_cons_succ, Nat.sub_self, Nat.reduceSub]
      rw [divI (by decide) (by decide)]
      simp only [hIx, bindO_s, pairO_s]
      rw [modI (by decide)]
      rfl) hE hlen
    unfold gSeq gSet
    rw [s1]
    simp only [bindO_s, List.set_cons_succ, List.set_cons_zero]
    rw [s2]
    simp only [bindO_s, List.set_cons_succ, List.set_cons_zero]
    rw [s3]
    simp only [bindO_s, List.set_cons_succ, List.set_cons_zero]
    unfold gDrop
    rw [e, set_end]
    simp
/-- the digits of a cell -/
theorem x_numbers (c s : Int) (hs : 0 ≤ s ∧ s ≤ 100000) {M : Mem} {a : Nat} (ha : M[a]? = some (.lst (List.replicate 60 (.int 420)))) :
    ∃ ds : List Int, ds.length = 60 ∧ (∀ x ∈ ds, 0 ≤ x ∧ x < 420) ∧ f__law_numbers [.int c, .int s, .ref a] M = some (.ref M.length, M ++ [.lst (ds.map .int)]) := by
  let N : Int := if (-1 - c) > c then -1 - c else c
  let P : Nat → Vars → Mem → Prop := fun i env Mm => ∃ (L : Int) (kk o : Option D) (ds : List Int), env = [some (.int c), some (.int s), some (.ref a), some (.int N), some (.int L), some (.ref M.length), kk, o] ∧ Mm = M ++ [.lst (ds.map .int)] ∧ ds.length = i ∧ ∀ x ∈ ds, 0 ≤ x ∧ x < 420
  have h0 : P 0 [some (.int c), some (.int s), some (.ref a), some (.int N), some (.int N), some (.ref M.length), none, none] (M ++ [.lst []]) := ⟨N, none, none, [], rfl, rfl, rfl, fun _ m => (List.not_mem_nil m).elim⟩
  obtain ⟨env', M', e, L, kk, o, ds, rfl, rfl, hl, hd⟩ := forD_inv (h := hName 6) (f := numBody) P (rangeD 0 60) 0 _ _ h0 fun i d env Mm hx hP => by
    obtain ⟨L, kk, o, ds, rfl, rfl, hl, hd⟩ := hP
    have hi : i < 60 := by
      have := (List.getElem?_eq_some_iff.mp hx).1
      simpa [rangeD] using this
    have hdd : d = .int (i : Nat) := by
      unfold rangeD at hx
      rw [List.getElem?_map, List.getElem?_range hi] at hx
      simp at hx
      exact hx.symm
    subst hdd
    have hl' : ds.length = i := by omega
    obtain ⟨L', o', x, x1, x2, e⟩ := num_step c s N L hs ha hi o ds hl' hd
    refine ⟨_, _, _, rfl, .inl e, L', _, o', ds ++ [x], rfl, rfl, by rw [List.length_append, List.length_singleton]; omega, fun y m => ?_⟩
    rcases List.mem_append.mp m with m | m
    · exact hd y m
    · have : y = x := by simpa using m
      subst this
      exact ⟨x1, x2⟩
  have hl' : ds.length = 60 := by
    simp [rangeD] at hl
    exact hl
  refine ⟨ds, hl', hd, ?_⟩
  have hg : g__law_numbers [some (.int c), some (.int s), some (.ref a), none, none, none, none, none] M = some (.rt (.ref M.length), M ++ [.lst (ds.map .int)]) := by
    have hM : (M ++ [Ob.lst []])[a]? = some (.lst (List.replicate 60 (.int 420))) := by
      rw [List.getElem?_append_left (List.getElem?_eq_some_iff.mp ha).1]
      exact ha
    have eN : fCall gMax2 (fCons (fV 0) (fCons (fOp gSubI (fNeg (fC (.int 1))) (fV 0)) fNil)) [some (.int c), some (.int s), some (.ref a), none, none, none, none, none] M = some (.int N, M) := rfl
    have eR : iRange1 (fCall gLen (fCons (fV 2) fNil)) [some (.int c), some (.int s), some (.ref a), some (.int N), some (.int N), some (.ref M.length), none, none] (M ++ [.lst []]) = some ((rangeD 0 60, yes), M ++ [.lst []]) := by
      unfold iRange1
      simp only [gRet, gSeq, gIf, gSet, gAsg, gPar, gDrop, fV, fC_s, fCons, fNil_s, fOp, fTest, fNotT, fAndT, fOrT, fAndV, fOrV, fNotV, fDef, fCall, fIsi, fChain, hTup, hCons, hNil, hName, bindO_s, pairO_s, fYes_s, gSkip_s, List.getElem?_cons_zero, List.getElem?_cons_succ, List.map_cons, List.map_nil, List.cons_append, List.nil_append, List.replicate, List.set_cons_zero, List.set_cons_succ, Nat.sub_self, Nat.reduceSub]
      have e2 : gLen (M ++ [Ob.lst []]) [.ref a] = some (.int 60) := by
        show (match (M ++ [Ob.lst []])[a]? with
          | some (.lst xs) => some (D.int xs.length)
          | none => none) = _
        rw [hM]
        rfl
      rw [e2]
      rfl
    unfold g__law_numbers gSeq gSet
    rw [eN]
    simp only [bindO_s, List.set_cons_succ, List.set_cons_zero]
    show bindO (gFor (iRange1 (fCall gLen (fCons (fV 2) fNil))) (hName 6) numBody [some (.int c), some (.int s), some (.ref a), some (.int N), some (.int N), some (.ref M.length), none, none] (M ++ [.lst []])) _ = _
    unfold gFor
    rw [eR]
    simp only [bindO_s]
    rw [e]
    rfl
  unfold f__law_numbers defD
  rw [if_pos (show [D.int c, .int s, .ref a].length = 3 from rfl)]
  show bindO (g__law_numbers [some (.int c), some (.int s), some (.ref a), none, none, none, none, none] M) _ = _
  rw [hg]
  show some (trim M.length (.ref M.length) (M ++ [.lst (ds.map .int)])) = _
  rw [trim_deep rfl]
end K01

-- K01U
namespace K01
open PySem PySem.Spec PyProof.Rows L2 PV
theorem fold_len (x : Array Nat) : ∀ (n : Nat) (acc : Array Nat), ((List.replicate n x).foldl (· ++ ·) acc).size = acc.size + n * x.size
  | 0, acc => by simp
  | n + 1, acc => by
    rw [List.replicate_succ, List.foldl_cons, fold_len x n]
    rw [Array.size_append, Nat.succ_mul]
    omega
theorem times_len (z : Str) (n : Nat) : (timesS z n).length = n * z.length := by
  show ((List.replicate n z.cps).foldl (· ++ ·) #[]).size = n * z.cps.size
  rw [fold_len]
  simp
theorem repS {M : Mem} {z : Str} {k : Int} (h1 : 1 ≤ k) (h2 : k ≤ 1000) (h3 : 0 < z.length) (h4 : z.length ≤ 100) : gMulA M (.str z) (.int k) = some (.str (timesS z k.toNat)) := by
  have e : gMul M (.str z) (.int k) = none := rfl
  unfold gMulA orO
  rw [e]
  show (if 1 ≤ k ∧ k ≤ 1000 ∧ 0 < z.length ∧ z.length ≤ 100 ∧ (timesS z k.toNat).length ≤ 100000 then some (D.str (timesS z k.toNat)) else none) = _
  have hL : (timesS z k.toNat).length ≤ 100000 := by
    rw [times_len]
    exact Nat.mul_le_mul (show k.toNat ≤ 1000 by omega) h4
  rw [if_pos ⟨h1, h2, h3, h4, hL⟩]
theorem fOp_def (g : Mem → D → D → Option D) (fa fb : FE) (env : Vars) (M : Mem) : fOp g fa fb env M = bindO (fa env M) fun x M1 => bindO (fb env M1) fun y M2 => pairO (g M2 x y) M2 := rfl
def One1 (d : D) : Prop := ∃ c, d = .str ⟨#[c]⟩
theorem popAt_eq {fo f : FE} {env : Vars} {M : Mem} {n : Nat} {i : Int} {xs : List D} {y : D} (ho : fo env M = some (.ref n, M)) (hf : f env M = some (.int i, M)) (hx : M[n]? = some (.lst xs)) (h0 : 0 ≤ i) (h1 : i < xs.length) (h2 : i ≤ 100000) (hy : xs[i.toNat]? = some y) :
    fPopAt fo f env M = some (y, M.set n (.lst (xs.eraseIdx i.toNat))) := by
  have hs : seqIndex? i xs.length = some i.toNat := (L2.ixN_seq (by
    unfold L2.ixN
    rw [if_pos h0, if_pos h1])).1
  unfold fPopAt
  rw [ho]
  simp only [bindO_s]
  rw [hf]
  simp only [bindO_s, hx]
  rw [if_pos ⟨by omega, h2⟩]
  simp only [hs, hy]
def persF : FE := fOp gMulA (fPopAt (fV 1) (fOp gModI (fOp gIx (fV 0) (fV 2)) (fCall gLen (fCons (fV 1) fNil)))) (fOp gAdd (fC (.int 1)) (fOp gModI (fOp gIx (fV 0) (fC (.int 3))) (fC (.int 8))))
theorem pers_step {M : Mem} {n : Nat} {ds : List Int} (hn : M[n]? = some (.lst (ds.map .int))) (hl : 4 ≤ ds.length) (hd : ∀ x ∈ ds, 0 ≤ x) {ls : List D} (h1 : 1 ≤ ls.length) (h2 : ls.length ≤ 1000) (h3 : ∀ d ∈ ls, One1 d) {j : Nat} (hj : j < 3) :
    ∃ (p : Str) (ls' : List D), p.length ≤ 8 ∧ ls'.length + 1 = ls.length ∧ (∀ d ∈ ls', One1 d) ∧ persF [some (.ref n), some (.ref M.length), some (.int (j : Nat))] (M ++ [.lst ls]) = some (.str p, M ++ [.lst ls']) := by
  have at_ : ∀ (X : Ob) (i : Nat), i < 4 → ∃ x, 0 ≤ x ∧ gIx (M ++ [X]) (.ref n) (.int (i : Nat)) = some (.int x) := by
    intro X i hi
    have hlt : i < ds.length := by omega
    refine ⟨ds[i], hd _ (List.getElem_mem hlt), ?_⟩
    show (match (M ++ [X])[n]? with
      | some (.lst xs) => L2.atI xs (i : Nat)
      | none => none) = _
    rw [List.getElem?_append_left (List.getElem?_eq_some_iff.mp hn).1, hn]
    exact L2.atI_nat (by rw [List.getElem?_map, List.getElem?_eq_getElem hlt]; rfl)
  obtain ⟨a, ha, ea⟩ := at_ (.lst ls) j (by omega)
  have hm : 0 ≤ a % (ls.length : Int) ∧ a % (ls.length : Int) < ls.length := ⟨Int.emod_nonneg _ (by omega), Int.emod_lt_of_pos _ (by omega)⟩
  have hlt : (a % (ls.length : Int)).toNat < ls.length := by omega
  obtain ⟨c, hc⟩ := h3 _ (List.getElem_mem hlt)
  have hp := popAt_eq (fo := fV 1) (f := fOp gModI (fOp gIx (fV 0) (fV 2)) (fCall gLen (fCons (fV 1) fNil))) (env := [some (.ref n), some (.ref M.length), some (.int (j : Nat))]) (M := M ++ [.lst ls]) (i := a % (ls.length : Int)) (xs := ls) (y := .str ⟨#[c]⟩) rfl (by
    simp only [gRet, gSeq, gIf, gSet, gAsg, gPar, gDrop, fV, fC_s, fCons, fNil_s, fOp, fTest, fNotT, fAndT, fOrT, fAndV, fOrV, fNotV, fDef, fCall, fIsi, fChain, hTup, hCons, hNil, hName, bindO_s, pairO_s, fYes_s, gSkip_s, List.getElem?_cons_zero, List.getElem?_cons_succ, List.map_cons, List.map_nil, List.cons_append, List.nil_append, List.replicate, List.set_cons_zero, List.set_cons_succ, Nat.sub_self, Nat.reduceSub]
    simp only [ea, pairO_s, bindO_s]
    have e2 : gLen (M ++ [Ob.lst ls]) [.ref M.length] = some (.int ls.length) := by
      show (match (M ++ [Ob.lst ls])[M.length]? with
        | some (.lst xs) => some (D.int xs.length)
        | none => none) = _
      rw [mem_at0]
      rfl
    rw [e2]
    simp only [pairO_s, bindO_s]
    rw [modI (by omega)]
    rfl) (mem_at0 M _) hm.1 hm.2 (by omega) (by rw [List.getElem?_eq_getElem hlt, hc])
  rw [set_end] at hp
  obtain ⟨b, hb, eb⟩ := at_ (.lst (ls.eraseIdx (a % (ls.length : Int)).toNat)) 3 (by decide)
  have hm8 : 0 ≤ b % 8 ∧ b % 8 < 8 := ⟨Int.emod_nonneg _ (by decide), Int.emod_lt_of_pos _ (by decide)⟩
  refine ⟨timesS ⟨#[c]⟩ (1 + b % 8).toNat, ls.eraseIdx (a % (ls.length : Int)).toNat, ?_, ?_, fun d m => h3 d (List.mem_of_mem_eraseIdx m), ?_⟩
  · rw [times_len]
    show (1 + b % 8).toNat * 1 ≤ 8
    omega
  · rw [List.length_eraseIdx, if_pos hlt]
    omega
  · rw [persF, fOp_def, hp]
    simp only [gRet, gSeq, gIf, gSet, gAsg, gPar, gDrop, fV, fC_s, fCons, fNil_s, fOp, fTest, fNotT, fAndT, fOrT, fAndV, fOrV, fNotV, fDef, fCall, fIsi, fChain, hTup, hCons, hNil, hName, bindO_s, pairO_s, fYes_s, gSkip_s, List.getElem?_cons_zero, List.getElem?_cons_succ, List.map_cons, List.map_nil, List.cons_append, List.nil_append, List.replicate, List.set_cons_zero, List.set_cons_succ, Nat.sub_self, Nat.reduceSub]
    have eb' : gIx (M ++ [Ob.lst (ls.eraseIdx (a % (ls.length : Int)).toNat)]) (.ref n) (.int 3) = some (.int b) := eb
    simp only [eb', pairO_s, bindO_s]
    rw [modI (by decide)]
    simp only [pairO_s, bindO_s, addI]
    rw [repS (z := ⟨#[c]⟩) (k := 1 + b % 8) (by omega) (by omega) (show 0 < 1 by decide) (show 1 ≤ 100 by decide)]
    rfl
theorem x_persons {M : Mem} {n : Nat} {ds : List Int} (hn : M[n]? = some (.lst (ds.map .int))) (hl : 4 ≤ ds.length) (hd : ∀ x ∈ ds, 0 ≤ x) :
    ∃ (l : Mem) (ps : List Str) (m : Nat), f__law_persons [.ref n] M = some (.ref m, M ++ l) ∧ (M ++ l)[m]? = some (.lst (ps.map .str)) ∧ ps.length = 3 ∧ ∀ p ∈ ps, p.length ≤ 8 := by
  have one0 : ∀ d ∈ PV.signs letters, One1 d := fun d m => by
    unfold PV.signs at m
    obtain ⟨c, _, rfl⟩ := List.mem_map.mp m
    exact ⟨c, rfl⟩
  have len0 : (PV.signs letters).length = 26 := by decide +kernel
  obtain ⟨p1, l1, a1, b1, c1, e1⟩ := pers_step hn hl hd (ls := PV.signs letters) (by omega) (by omega) one0 (j := 0) (by decide)
  obtain ⟨p2, l2, a2, b2, c2, e2⟩ := pers_step hn hl hd (ls := l1) (by omega) (by omega) c1 (j := 1) (by decide)
  obtain ⟨p3, l3, a3, b3, c3, e3⟩ := pers_step hn hl hd (ls := l2) (by omega) (by omega) c2 (j := 2) (by decide)
  have hc : fLc (iRange1 (fC (.int 3))) [2] (hName 2) fYes persF [some (.ref n), some (.ref M.length), none] (M ++ [.lst (PV.signs letters)]) = some ([.str p1, .str p2, .str p3], M ++ [.lst l3]) := by
    unfold fLc
    have ei : iRange1 (fC (.int 3)) [some (.ref n), some (.ref M.length), none] (M ++ [.lst (PV.signs letters)]) = some (([.int (0 : Nat), .int (1 : Nat), .int (2 : Nat)], yes), M ++ [.lst (PV.signs letters)]) := rfl
    rw [ei]
    simp only [bindO_s]
    rw [if_pos (by decide)]
    simp only [compD, yes, hName, wipeD, List.set_cons_succ, List.set_cons_zero, fYes_s, bindO_s]
    rw [e1]
    simp only [bindO_s]
    rw [e2]
    simp only [bindO_s]
    rw [e3]
    rfl
  have hg : g__law_persons [some (.ref n), none, none] M = some (.rt (.ref (M.length + 1)), M ++ [.lst l3, .lst [.str p1, .str p2, .str p3]]) := by
    unfold g__law_persons gSeq gSet
    have e0 : fNote (fListS (fC (.str "abcdefghijklmnopqrstuvwxyz"))) [some (.ref n), none, none] M = some (.ref M.length, M ++ [.lst (PV.signs letters)]) := rfl
    rw [e0]
    simp only [bindO_s, List.set_cons_succ, List.set_cons_zero]
    unfold gRet fNote
    show bindO (bindO (fLc (iRange1 (fC (.int 3))) [2] (hName 2) fYes persF [some (.ref n), some (.ref M.length), none] (M ++ [.lst (PV.signs letters)])) _) _ = _
    rw [hc]
    simp
  refine ⟨[.lst l3, .lst [.str p1, .str p2, .str p3]], [p1, p2, p3], M.length + 1, ?_, mem_at M _ 1, rfl, fun p m => ?_⟩
  · unfold f__law_persons defD
    rw [if_pos (show [D.ref n].length = 1 from rfl)]
    show bindO (g__law_persons [some (.ref n), none, none] M) _ = _
    rw [hg]
    show some (trim M.length (.ref (M.length + 1)) (M ++ [.lst l3, .lst [.str p1, .str p2, .str p3]])) = _
    rw [trim_deep rfl]
  · simp only [List.mem_cons, List.not_mem_nil, or_false] at m
    rcases m with rfl | rfl | rfl <;> assumption
end K01

-- K01V
namespace K01
open PySem PySem.Spec PyProof.Rows L2 PV
/-- the digits that a list holds -/
structure Dig (M : Mem) (n : Nat) (ds : List Int) : Prop where
  at_ : M[n]? = some (.lst (ds.map .int))
  nn : ∀ x ∈ ds, 0 ≤ x
theorem Dig.ext {M : Mem} {n : Nat} {ds : List Int} (h : Dig M n ds) (l : Mem) : Dig (M ++ l) n ds := ⟨by
  rw [List.getElem?_append_left (List.getElem?_eq_some_iff.mp h.at_).1]
  exact h.at_, h.nn⟩
/-- a digit's rest -/
theorem Dig.mod {M : Mem} {n : Nat} {ds : List Int} (h : Dig M n ds) {j : Nat} (hj : j < ds.length) (m : Nat) (hm : 0 < m) : ∃ k : Nat, k < m ∧
    ∀ (r : Vars) (l : Mem), fOp gModI (fOp gIx (fV 0) (fC (.int (j : Nat)))) (fC (.int (m : Nat))) (some (.ref n) :: r) (M ++ l) = some (.int (k : Nat), M ++ l) := by
  have h0 : 0 ≤ ds[j] % (m : Int) ∧ ds[j] % (m : Int) < m := ⟨Int.emod_nonneg _ (by omega), Int.emod_lt_of_pos _ (by omega)⟩
  refine ⟨(ds[j] % (m : Int)).toNat, by omega, fun r l => ?_⟩
  have e : gIx (M ++ l) (.ref n) (.int (j : Nat)) = some (.int ds[j]) := by
    show (match (M ++ l)[n]? with
      | some (.lst xs) => L2.atI xs (j : Nat)
      | none => none) = _
    rw [(h.ext l).at_]
    exact L2.atI_nat (by rw [List.getElem?_map, List.getElem?_eq_getElem hj]; rfl)
  rw [fOp_def, fOp_def]
  simp only [gRet, gSeq, gIf, gSet, gAsg, gPar, gDrop, fV, fC_s, fCons, fNil_s, fOp, fTest, fNotT, fAndT, fOrT, fAndV, fOrV, fNotV, fDef, fCall, fIsi, fChain, hTup, hCons, hNil, hName, bindO_s, pairO_s, fYes_s, gSkip_s, List.getElem?_cons_zero, List.getElem?_cons_succ, List.map_cons, List.map_nil, List.cons_append, List.nil_append, List.replicate, List.set_cons_zero, List.set_cons_succ, Nat.sub_self, Nat.reduceSub]
  rw [e]
  simp only [pairO_s, bindO_s]
  rw [modI (by omega)]
  simp only [pairO_s]
  rw [Int.toNat_of_nonneg h0.1]
theorem pick {f : FL} {g : FE} {env : Vars} {M : Mem} {xs : List D} {k : Nat} (hf : f env M = some (xs, M)) (hg : g env M = some (.int (k : Nat), M)) (hk : k < xs.length) : fIxF f g env M = some (xs[k], M) := by
  unfold fIxF
  rw [hf]
  simp only [bindO_s]
  rw [hg]
  simp only [bindO_s]
  rw [L2.atI_nat (List.getElem?_eq_getElem hk)]
  rfl
def stems : List Str := ["", "x", "zz"]
def tabNames : List Str := stems.map (fun s => s ++ ("p" : Str)) ++ stems.map (fun s => s ++ ("q" : Str)) ++ stems.map (fun s => s ++ ("r" : Str))
def colNames : List Str := ["who", "a", "b", "one", "two", "e", "c", "d"]
def vals : List D := [.non, .int 0, .int 1, .int 2, .int 3, .int 9, .int 10]
def GoodCol (c : D) : Prop := ∃ w ∈ colNames, ∃ k ∈ kinds, ∃ v ∈ vals, c = .tup [.str w, .str k, v]
def GoodTab (t : D) : Prop := ∃ n ∈ tabNames, ∃ r ∈ rules, ∃ cs : List D, 1 ≤ cs.length ∧ cs.length ≤ 3 ∧ (∀ c ∈ cs, GoodCol c) ∧ t = .tup [.str n, .tup cs, .str r]
theorem addS {M : Mem} {x y : Str} (h : x.length + y.length ≤ 100000) : gAdd M (.str x) (.str y) = some (.str (x ++ y)) := by
  show orO none (orO (if x.length + y.length ≤ 100000 then some (D.str (x ++ y)) else none) _) = _
  rw [if_pos h]
  rfl
theorem stem_len : ∀ s ∈ stems, s.length ≤ 10 := by decide +kernel
theorem x_tables {M : Mem} {n : Nat} {ds : List Int} (h : Dig M n ds) (hl : 6 ≤ ds.length) : ∃ (l : Mem) (T0 T1 T2 : D), f__law_tables [.ref n] M = some (.tup [T0, T1, T2], M ++ l) ∧ GoodTab T0 ∧ GoodTab T1 ∧ GoodTab T2 := by
  obtain ⟨k0, a0, e0⟩ := h.mod (j := 0) (by omega) 3 (by decide)
  obtain ⟨k1, a1, e1⟩ := h.mod (j := 1) (by omega) 2 (by decide)
  obtain ⟨k2, a2, e2⟩ := h.mod (j := 2) (by omega) 2 (by decide)
  obtain ⟨k3, a3, e3⟩ := h.mod (j := 3) (by omega) 2 (by decide)
  obtain ⟨k4, a4, e4⟩ := h.mod (j := 4) (by omega) 3 (by decide)
  obtain ⟨k5, a5, e5⟩ := h.mod (j := 5) (by omega) 2 (by decide)
  -- the stem
  have hs : k0 < ([.str "", .str "x", .str "zz"] : List D).length := a0
  obtain ⟨st, hst, est⟩ : ∃ st ∈ stems, ([.str "", .str "x", .str "zz"] : List D)[k0] = .str st := by
    match k0, a0 with
    | 0, _ => exact ⟨"", .head _, rfl⟩
    | 1, _ => exact ⟨"x", .tail _ (.head _), rfl⟩
    | 2, _ => exact ⟨"zz", .tail _ (.tail _ (.head _)), rfl⟩
  have f0 := pick (f := fLst (fCons (fC (.str "")) (fCons (fC (.str "x")) (fCons (fC (.str "zz")) fNil)))) (env := [some (.ref n), none, none, none, none, none, none]) (M := M) rfl (by simpa using e0 [none, none, none, none, none, none] []) hs
  rw [est] at f0
  -- the rules
  let rl (k : Nat) (hk : k < 2) : Str := match k, hk with
    | 0, _ => "row"
    | 1, _ => "part"
  have rlm : ∀ k hk, rl k hk ∈ rules := fun k hk => by
    match k, hk with
    | 0, _ => exact .head _
    | 1, _ => exact .tail _ (.head _)
  have rle : ∀ k (hk : k < 2), ([.str "row", .str "part"] : List D)[k]'hk = .str (rl k hk) := fun k hk => by
    match k, hk with
    | 0, _ => rfl
    | 1, _ => rfl
  let r1 := rl k1 a1
  let r2 := rl k2 a2
  let r3 := rl k3 a3
  have step : ∀ (j k : Nat) (hk : k < 2), (∀ (r : Vars) (l : Mem), fOp gModI (fOp gIx (fV 0) (fC (.int (j : Nat)))) (fC (.int (2 : Nat))) (some (.ref n) :: r) (M ++ l) = some (.int (k : Nat), M ++ l)) →
      fIxF (fLst (fCons (fC (.str "row")) (fCons (fC (.str "part")) fNil))) (fOp gModI (fOp gIx (fV 0) (fV 6)) (fC (.int 2))) [some (.ref n), some (.str st), none, none, none, none, some (.int (j : Nat))] M = some (.str (rl k hk), M) := fun j k hk e => by
    have z := pick (f := fLst (fCons (fC (.str "row")) (fCons (fC (.str "part")) fNil))) (g := fOp gModI (fOp gIx (fV 0) (fV 6)) (fC (.int 2))) (env := [some (.ref n), some (.str st), none, none, none, none, some (.int (j : Nat))]) (M := M) (k := k) rfl (by
      have q := e [some (.str st), none, none, none, none, some (.int (j : Nat))] []
      rw [List.append_nil] at q
      exact q) hk
    rw [z]
    exact congrArg (fun d => some (d, M)) (rle k hk)
  have fr : fNote (fLc (iRange2 (fC (.int 1)) (fC (.int 4))) [6] (hName 6) fYes (fIxF (fLst (fCons (fC (.str "row")) (fCons (fC (.str "part")) fNil))) (fOp gModI (fOp gIx (fV 0) (fV 6)) (fC (.int 2))))) [some (.ref n), some (.str st), none, none, none, none, none] M = some (.ref M.length, M ++ [.lst [.str r1, .str r2, .str r3]]) := by
    unfold fNote fLc
    have ei : iRange2 (fC (.int 1)) (fC (.int 4)) [some (.ref n), some (.str st), none, none, none, none, none] M = some (([.int (1 : Nat), .int (2 : Nat), .int (3 : Nat)], yes), M) := rfl
    rw [ei]
    simp only [bindO_s]
    rw [if_pos (by decide)]
    simp only [compD, yes, hName, wipeD, List.set_cons_succ, List.set_cons_zero, fYes_s, bindO_s]
    rw [step 1 k1 a1 e1]
    simp only [bindO_s]
    rw [step 2 k2 a2 e2]
    simp only [bindO_s]
    rw [step 3 k3 a3 e3]
    rfl
  -- the columns' defaults
  let M1 : Mem := M ++ [.lst [.str r1, .str r2, .str r3]]
  obtain ⟨v4, hv4, ev4⟩ : ∃ v ∈ vals, ([.non, .int 3, .int 0] : List D)[k4]'a4 = v := by
    match k4, a4 with
    | 0, _ => exact ⟨.non, .head _, rfl⟩
    | 1, _ => exact ⟨.int 3, .tail _ (.tail _ (.tail _ (.tail _ (.head _)))), rfl⟩
    | 2, _ => exact ⟨.int 0, .tail _ (.head _), rfl⟩
  obtain ⟨v5, hv5, ev5⟩ : ∃ v ∈ vals, ([.non, .int 2] : List D)[k5]'a5 = v := by
    match k5, a5 with
    | 0, _ => exact ⟨.non, .head _, rfl⟩
    | 1, _ => exact ⟨.int 2, .tail _ (.tail _ (.tail _ (.head _))), rfl⟩
  have f4 : ∀ r : Vars, fIxF (fLst (fCons (fC .non) (fCons (fC (.int 3)) (fCons (fC (.int 0)) fNil)))) (fOp gModI (fOp gIx (fV 0) (fC (.int 4))) (fC (.int 3))) (some (.ref n) :: r) M1 = some (v4, M1) := fun r => by
    have z := pick (f := fLst (fCons (fC .non) (fCons (fC (.int 3)) (fCons (fC (.int 0)) fNil)))) (env := some (.ref n) :: r) (M := M1) (k := k4) rfl (e4 r [.lst [.str r1, .str r2, .str r3]]) a4
    rw [ev4] at z
    exact z
  have f5 : ∀ r : Vars, fIxF (fLst (fCons (fC .non) (fCons (fC (.int 2)) fNil))) (fOp gModI (fOp gIx (fV 0) (fC (.int 5))) (fC (.int 2))) (some (.ref n) :: r) M1 = some (v5, M1) := fun r => by
    have z := pick (f := fLst (fCons (fC .non) (fCons (fC (.int 2)) fNil))) (env := some (.ref n) :: r) (M := M1) (k := k5) rfl (e5 r [.lst [.str r1, .str r2, .str r3]]) a5
    rw [ev5] at z
    exact z
  have gr : ∀ (i : Nat) (x : Str), ([.str r1, .str r2, .str r3] : List D)[i]? = some (.str x) → gIx M1 (.ref M.length) (.int (i : Nat)) = some (.str x) := fun i x hx => by
    show (match M1[M.length]? with
      | some (.lst xs) => L2.atI xs (i : Nat)
      | none => none) = _
    rw [mem_at0]
    exact L2.atI_nat hx
  have g0 : gIx M1 (.ref M.length) (.int 0) = some (.str r1) := gr 0 r1 rfl
  have g1 : gIx M1 (.ref M.length) (.int 1) = some (.str r2) := gr 1 r2 rfl
  have g2 : gIx M1 (.ref M.length) (.int 2) = some (.str r3) := gr 2 r3 rfl
  have hst10 := stem_len st hst
  have add1 : ∀ x : Str, x.length ≤ 10 → gAdd M1 (.str st) (.str x) = some (.str (st ++ x)) := fun x hx => addS (by omega)
  let C0 : List D := [.tup [.str "who", .str "person", .non], .tup [.str "a", .str "number", .non], .tup [.str "b", .str "number", v4]]
  let C1 : List D := [.tup [.str "one", .str "person", .non], .tup [.str "two", .str "person", .non], .tup [.str "e", .str "number", v5]]
  let C2 : List D := [.tup [.str "c", .str "number", .non], .tup [.str "d", .str "number", .int 1]]
  let T0 : D := .tup [.str (st ++ "p"), .tup C0, .str r1]
  let T1 : D := .tup [.str (st ++ "q"), .tup C1, .str r2]
  let T2 : D := .tup [.str (st ++ "r"), .tup C2, .str r3]
  have hg : g__law_tables [some (.ref n), none, none, none, none, none, none] M = some (.rt (.tup [T0, T1, T2]), M1) := by
    unfold g__law_tables gSeq gSet
    rw [f0]
    simp only [bindO_s, List.set_cons_succ, List.set_cons_zero]
    rw [fr]
    simp only [bindO_s, List.set_cons_succ, List.set_cons_zero]
    simp only [fTup, fCons, fC_s, fNil_s, bindO_s, pairO_s, List.length_cons, List.length_nil, Nat.zero_add, Nat.reduceAdd, Nat.reduceLeDiff, ite_true, if_true]
    rw [f4]
    simp only [fTup, fCons, fC_s, fNil_s, bindO_s, pairO_s, List.length_cons, List.length_nil, Nat.zero_add, Nat.reduceAdd, Nat.reduceLeDiff, ite_true, if_true]
    simp only [List.set_cons_succ, List.set_cons_zero]
    rw [f5]
    simp only [fTup, fCons, fC_s, fNil_s, bindO_s, pairO_s, List.length_cons, List.length_nil, Nat.zero_add, Nat.reduceAdd, Nat.reduceLeDiff, ite_true, if_true]
    simp only [List.set_cons_succ, List.set_cons_zero]
    unfold gRet
    simp only [fTup, fCons, fC_s, fNil_s, bindO_s, pairO_s, List.length_cons, List.length_nil, Nat.zero_add, Nat.reduceAdd, Nat.reduceLeDiff, ite_true, if_true]
    simp only [fOp_def, fV, fC_s, bindO_s, List.getElem?_cons_succ, List.getElem?_cons_zero, add1 "p" (by decide), add1 "q" (by decide), add1 "r" (by decide), pairO_s, g0, g1, g2]
    simp only [fTup, fCons, fC_s, fNil_s, bindO_s, pairO_s, List.length_cons, List.length_nil, Nat.zero_add, Nat.reduceAdd, Nat.reduceLeDiff, ite_true, if_true]
    simp only [add1 "q" (by decide), bindO_s, pairO_s, g1]
    simp only [fTup, fCons, fC_s, fNil_s, bindO_s, pairO_s, List.length_cons, List.length_nil, Nat.zero_add, Nat.reduceAdd, Nat.reduceLeDiff, ite_true, if_true]
    simp only [add1 "r" (by decide), bindO_s, pairO_s, g2]
    simp only [fTup, fCons, fC_s, fNil_s, bindO_s, pairO_s, List.length_cons, List.length_nil, Nat.zero_add, Nat.reduceAdd, Nat.reduceLeDiff, ite_true, if_true]
    rfl
  have good : ∀ (x : Str) (r : Str) (cs : List D), st ++ x ∈ tabNames → r ∈ rules → 1 ≤ cs.length → cs.length ≤ 3 → (∀ c ∈ cs, GoodCol c) → GoodTab (.tup [.str (st ++ x), .tup cs, .str r]) := fun x r cs h1 h2 h3 h4 h5 => ⟨_, h1, r, h2, cs, h3, h4, h5, rfl⟩
  have nm : ∀ x : Str, x = "p" ∨ x = "q" ∨ x = "r" → st ++ x ∈ tabNames := by
    intro x hx
    unfold tabNames
    rcases hx with rfl | rfl | rfl
    · exact List.mem_append_left _ (List.mem_append_left _ (List.mem_map_of_mem hst))
    · exact List.mem_append_left _ (List.mem_append_right _ (List.mem_map_of_mem hst))
    · exact List.mem_append_right _ (List.mem_map_of_mem hst)
  have col : ∀ (w k : Str) (v : D), w ∈ colNames → k ∈ kinds → v ∈ vals → GoodCol (.tup [.str w, .str k, v]) := fun w k v h1 h2 h3 => ⟨w, h1, k, h2, v, h3, rfl⟩
  have hf : f__law_tables [.ref n] M = some (trim M.length (.tup [T0, T1, T2]) M1) := by
    unfold f__law_tables defD
    rw [if_pos (show [D.ref n].length = 1 from rfl)]
    show bindO (g__law_tables [some (.ref n), none, none, none, none, none, none] M) _ = _
    rw [hg]
    rfl
  have hG : GoodTab T0 ∧ GoodTab T1 ∧ GoodTab T2 := by
    refine ⟨good "p" r1 C0 (nm _ (.inl rfl)) (rlm _ _) (show 1 ≤ 3 by decide) (show 3 ≤ 3 by decide) ?_, good "q" r2 C1 (nm _ (.inr (.inl rfl))) (rlm _ _) (show 1 ≤ 3 by decide) (show 3 ≤ 3 by decide) ?_, good "r" r3 C2 (nm _ (.inr (.inr rfl))) (rlm _ _) (show 1 ≤ 2 by decide) (show 2 ≤ 3 by decide) ?_⟩
    · intro c m
      simp only [C0, List.mem_cons, List.not_mem_nil, or_false] at m
      rcases m with rfl | rfl | rfl
      · exact col _ _ _ (by decide) (by decide) (.head _)
      · exact col _ _ _ (by decide) (by decide) (.head _)
      · exact col _ _ _ (by decide) (by decide) hv4
    · intro c m
      simp only [C1, List.mem_cons, List.not_mem_nil, or_false] at m
      rcases m with rfl | rfl | rfl
      · exact col _ _ _ (by decide) (by decide) (.head _)
      · exact col _ _ _ (by decide) (by decide) (.head _)
      · exact col _ _ _ (by decide) (by decide) hv5
    · intro c m
      simp only [C2, List.mem_cons, List.not_mem_nil, or_false] at m
      rcases m with rfl | rfl
      · exact col _ _ _ (by decide) (by decide) (.head _)
      · exact col _ _ _ (by decide) (by decide) (.tail _ (.tail _ (.head _)))
  exact ⟨_, T0, T1, T2, by rw [hf, trim_deep rfl], hG⟩
end K01

-- K01W
namespace K01
open PySem PySem.Spec PyProof.Rows L2 PV
/-! ### things that both looks look at -/
structure CItem (C : Cst) (c : D) : Prop where
  ok : ∀ M, Has M C → ColOk M c
  sh : ∃ q, ShL C c 4 700 q
structure CThing (C : Cst) (c : D) : Prop where
  ok : ∀ M, Has M C → ColsOk M c
  sh : ∃ q, ShL C c 5 8000 q
structure TThing (C : Cst) (c : D) : Prop where
  ok : ∀ M, Has M C → TabOk M c
  sh : ∃ q, ShL C c 6 30000 q
structure Thing (C : Cst) (c : D) : Prop where
  ok : ∀ M, Has M C → TabsOk M c
  sh : ∃ q, ShL C c 7 300000 q
abbrev Sub (C C' : Cst) : Prop := ∀ p ∈ C, p ∈ C'
theorem Has.less {M : Mem} {C C' : Cst} (h : Has M C') (s : Sub C C') : Has M C := fun p m => h p (s p m)
theorem CItem.sub {C C' : Cst} {c : D} (h : CItem C c) (s : Sub C C') : CItem C' c := ⟨fun M hM => h.ok M (Has.less hM s), let ⟨q, z⟩ := h.sh; ⟨q, z.sub s⟩⟩
theorem CThing.sub {C C' : Cst} {c : D} (h : CThing C c) (s : Sub C C') : CThing C' c := ⟨fun M hM => h.ok M (Has.less hM s), let ⟨q, z⟩ := h.sh; ⟨q, z.sub s⟩⟩
theorem TThing.sub {C C' : Cst} {c : D} (h : TThing C c) (s : Sub C C') : TThing C' c := ⟨fun M hM => h.ok M (Has.less hM s), let ⟨q, z⟩ := h.sh; ⟨q, z.sub s⟩⟩
theorem Thing.sub {C C' : Cst} {c : D} (h : Thing C c) (s : Sub C C') : Thing C' c := ⟨fun M hM => h.ok M (Has.less hM s), let ⟨q, z⟩ := h.sh; ⟨q, z.sub s⟩⟩
theorem Kd.sh {C : Cst} {d : D} (h : Kd C d) : ∃ q, ShL C d 3 200 q := let ⟨_, q, z, _⟩ := h; ⟨q, z⟩
theorem shL_le {C : Cst} {d : D} {k L k' L' : Nat} (h : ∃ q, ShL C d k L q) (hk : k ≤ k') (hL : L ≤ L') : ∃ q, ShL C d k' L' q := let ⟨q, z⟩ := h; ⟨q, z.mono hk hL⟩
theorem kd_all {C : Cst} {xs : List D} (h : ∀ d ∈ xs, Kd C d) (hl : xs.length ≤ 3) : ∃ q, ShL C (.tup xs) 4 700 q :=
  shL_le (ShL.tup fun d m => (h d m).sh) (by decide) (by have : xs.length * 202 ≤ 3 * 202 := Nat.mul_le_mul_right _ hl; omega)
theorem kd_allR {C : Cst} {n : Nat} {xs : List D} (hn : (n, xs) ∈ C) (h : ∀ d ∈ xs, Kd C d) (hl : xs.length ≤ 3) : ∃ q, ShL C (.ref n) 4 700 q :=
  shL_le (ShL.ref hn fun d m => (h d m).sh) (by decide) (by have : xs.length * 202 ≤ 3 * 202 := Nat.mul_le_mul_right _ hl; omega)
theorem mem3 {P : D → Prop} {a b c : D} (ha : P a) (hb : P b) (hc : P c) : ∀ d ∈ [a, b, c], P d := fun d m => by
  simp only [List.mem_cons, List.not_mem_nil, or_false] at m
  rcases m with rfl | rfl | rfl <;> assumption
theorem mem2 {P : D → Prop} {a b : D} (ha : P a) (hb : P b) : ∀ d ∈ [a, b], P d := fun d m => by
  simp only [List.mem_cons, List.not_mem_nil, or_false] at m
  rcases m with rfl | rfl <;> assumption
theorem cc3 {C : Cst} {a b c : D} (ha : Kd C a) (hb : Kd C b) (hc : Kd C c) : CItem C (.tup [a, b, c]) :=
  ⟨fun M hM => ⟨ha.1, hb.1, hc.1, hb.shows hM fun w m => List.mem_append_left _ m⟩, kd_all (mem3 ha hb hc) (by simp)⟩
theorem cc2 {C : Cst} {a b : D} (ha : Kd C a) (hb : Kd C b) : CItem C (.tup [a, b]) := ⟨fun M _ => trivial, kd_all (mem2 ha hb) (by simp)⟩
theorem ccR {C : Cst} {n : Nat} {xs : List D} (hn : (n, xs) ∈ C) (h : ∀ d ∈ xs, Kd C d) (hl : xs.length ≤ 3) : CItem C (.ref n) := ⟨fun M _ => trivial, kd_allR hn h hl⟩
theorem ccO {C : Cst} {d : D} (h : Odd C d) : CItem C d := ⟨fun M _ => (h.col M).1, shL_le h.kd.sh (by decide) (by decide)⟩
theorem cth {C : Cst} {cs : List D} (h : ∀ c ∈ cs, CItem C c) (hl : cs.length ≤ 8) : CThing C (.tup cs) :=
  ⟨fun M hM c m => (h c m).ok M hM, shL_le (ShL.tup fun d m => (h d m).sh) (by decide) (by have : cs.length * 702 ≤ 8 * 702 := Nat.mul_le_mul_right _ hl; omega)⟩
theorem cthR {C : Cst} {n : Nat} {cs : List D} (hn : (n, cs) ∈ C) (h : ∀ c ∈ cs, CItem C c) (hl : cs.length ≤ 8) : CThing C (.ref n) :=
  ⟨fun M hM => trivial, shL_le (ShL.ref hn fun d m => (h d m).sh) (by decide) (by have : cs.length * 702 ≤ 8 * 702 := Nat.mul_le_mul_right _ hl; omega)⟩
theorem cthO {C : Cst} {d : D} (h : Odd C d) : CThing C d := ⟨fun M _ => (h.col M).2.1, shL_le h.kd.sh (by decide) (by decide)⟩
theorem tt3 {C : Cst} {n cs r : D} (hn : Kd C n) (hc : CThing C cs) (hr : Kd C r) : TThing C (.tup [n, cs, r]) :=
  ⟨fun M hM => ⟨hn.1, hc.ok M hM, hr.1, hr.shows hM fun w m => List.mem_append_right _ m⟩,
    shL_le (ShL.tup (k := 5) (L := 8000) (mem3 (P := fun d => ∃ q, ShL C d 5 8000 q) (shL_le hn.sh (by decide) (by decide)) hc.sh (shL_le hr.sh (by decide) (by decide)))) (by decide) (by simp)⟩
theorem ttO {C : Cst} {d : D} (h : Odd C d) : TThing C d := ⟨fun M _ => (h.col M).2.2.1, shL_le h.kd.sh (by decide) (by decide)⟩
theorem thT {C : Cst} {ts : List D} (h : ∀ t ∈ ts, TThing C t) (hl : ts.length ≤ 8) : Thing C (.tup ts) :=
  ⟨fun M hM c m => (h c m).ok M hM, shL_le (ShL.tup fun d m => (h d m).sh) (by decide) (by have : ts.length * 30002 ≤ 8 * 30002 := Nat.mul_le_mul_right _ hl; omega)⟩
theorem thR {C : Cst} {n : Nat} {ts : List D} (hn : (n, ts) ∈ C) (h : ∀ t ∈ ts, TThing C t) (hl : ts.length ≤ 8) : Thing C (.ref n) :=
  ⟨fun M hM => trivial, shL_le (ShL.ref hn fun d m => (h d m).sh) (by decide) (by have : ts.length * 30002 ≤ 8 * 30002 := Nat.mul_le_mul_right _ hl; omega)⟩
theorem thO {C : Cst} {d : D} (h : Odd C d) : Thing C d := ⟨fun M _ => (h.col M).2.2.2, shL_le h.kd.sh (by decide) (by decide)⟩
/-! ### the good ones -/
theorem tabNames_ok : tabNames.all (fun w => okFlat (.str w)) = true := by decide +kernel
theorem colNames_ok : colNames.all (fun w => okFlat (.str w)) = true := by decide +kernel
theorem words_ok : words4.all (fun w => okFlat (.str w)) = true := by decide +kernel
theorem vals_ok : vals.all okFlat = true := by decide +kernel
theorem GoodCol.item {c : D} (h : GoodCol c) {C : Cst} : ∃ w k v, c = .tup [w, k, v] ∧ Kd C w ∧ Kd C k ∧ Kd C v := by
  obtain ⟨w, hw, k, hk, v, hv, rfl⟩ := h
  exact ⟨_, _, _, rfl, okFlat_kd (List.all_eq_true.mp colNames_ok w hw), okFlat_kd (List.all_eq_true.mp words_ok k (List.mem_append_left _ hk)), okFlat_kd (List.all_eq_true.mp vals_ok v hv)⟩
theorem GoodCol.ci {c : D} (h : GoodCol c) {C : Cst} : CItem C c := by
  obtain ⟨w, k, v, rfl, a, b, d⟩ := h.item (C := C)
  exact cc3 a b d
structure TabIs (C : Cst) (n r : D) (cs : List D) : Prop where
  n : Kd C n
  r : Kd C r
  l1 : 1 ≤ cs.length
  l3 : cs.length ≤ 3
  cs : ∀ c ∈ cs, GoodCol c
theorem GoodTab.is {t : D} (h : GoodTab t) {C : Cst} : ∃ n r cs, t = .tup [.str n, .tup cs, .str r] ∧ TabIs C (.str n) (.str r) cs := by
  obtain ⟨n, hn, r, hr, cs, h1, h3, hc, rfl⟩ := h
  exact ⟨n, r, cs, rfl, okFlat_kd (List.all_eq_true.mp tabNames_ok n hn), okFlat_kd (List.all_eq_true.mp words_ok r (List.mem_append_right _ hr)), h1, h3, hc⟩
theorem GoodTab.tt {t : D} (h : GoodTab t) {C : Cst} : TThing C t := by
  obtain ⟨n, r, cs, rfl, z⟩ := h.is (C := C)
  exact tt3 z.n (cth (fun c m => (z.cs c m).ci) (by have := z.l3; omega)) z.r
/-! ### cuts -/
theorem cut_to (xs : List D) (p : Nat) : PV.cutD xs none (some (p : Int)) = xs.take p := by
  unfold PV.cutD
  have e1 : HT.sIx xs.length 0 none = 0 := rfl
  have e2 : HT.sIx xs.length xs.length (some (p : Int)) = min p xs.length := HT.sIx_nat _ _ _
  rw [e1, e2]
  simp
theorem cut_from (xs : List D) (p : Nat) : PV.cutD xs (some (p : Int)) none = xs.drop p := by
  unfold PV.cutD
  have e1 : HT.sIx xs.length 0 (some (p : Int)) = min p xs.length := HT.sIx_nat _ _ _
  have e2 : HT.sIx xs.length xs.length none = xs.length := rfl
  rw [e1, e2]
  by_cases h : p ≤ xs.length
  · rw [Nat.min_eq_left h, List.take_of_length_le (by simp)]
  · rw [Nat.min_eq_right (by omega), List.drop_of_length_le (Nat.le_refl _), List.drop_of_length_le (by omega)]
    simp
theorem addT {M : Mem} {xs ys : List D} (h : xs.length + ys.length ≤ 100000) : gAdd M (.tup xs) (.tup ys) = some (.tup (xs ++ ys)) := by
  show orO none (orO none (if xs.length + ys.length ≤ 100000 then some (D.tup (xs ++ ys)) else none)) = _
  rw [if_pos h]
  rfl
end K01

-- K01X
namespace K01
open PySem PySem.Spec PyProof.Rows L2 PV
theorem Dig.ix {M : Mem} {n : Nat} {ds : List Int} (h : Dig M n ds) {j : Nat} (hj : j < ds.length) : gIx M (.ref n) (.int (j : Nat)) = some (.int ds[j]) := by
  show (match M[n]? with
    | some (.lst xs) => L2.atI xs (j : Nat)
    | none => none) = _
  rw [h.at_]
  exact L2.atI_nat (by rw [List.getElem?_map, List.getElem?_eq_getElem hj]; rfl)
theorem tup_ix {M : Mem} {xs : List D} {j : Nat} (hj : j < xs.length) : gIx M (.tup xs) (.int (j : Nat)) = some xs[j] := L2.atI_nat (List.getElem?_eq_getElem hj)
theorem fCons_def (f : FE) (g : FL) (env : Vars) (M : Mem) : fCons f g env M = bindO (f env M) fun d M1 => bindO (g env M1) fun ds M2 => some (d :: ds, M2) := rfl
theorem fTup_def (f : FL) (env : Vars) (M : Mem) : fTup f env M = bindO (f env M) fun ds M1 => if ds.length ≤ 100000 then some (.tup ds, M1) else none := rfl
theorem fLst_def (f : FL) (env : Vars) (M : Mem) : fLst f env M = bindO (f env M) fun ds M1 => if ds.length ≤ 100000 then some (ds, M1) else none := rfl
/-- the columns with one put otherwise -/
def bentCols (cs : List D) (p : Nat) (one : D) : List D := cs.take p ++ [one] ++ cs.drop (p + 1)
theorem bentCols_len (cs : List D) {p : Nat} (hp : p < cs.length) (one : D) : (bentCols cs p one).length = cs.length := by
  unfold bentCols
  simp
  omega
theorem bentCols_mem {P : D → Prop} {cs : List D} {p : Nat} {one : D} (h : ∀ c ∈ cs, P c) (h1 : P one) : ∀ c ∈ bentCols cs p one, P c := fun c m => by
  unfold bentCols at m
  simp only [List.mem_append, List.mem_singleton] at m
  rcases m with (m | rfl) | m
  · exact h c (List.mem_of_mem_take m)
  · exact h1
  · exact h c (List.mem_of_mem_drop m)
def bentOne : FE := fTup (fCons (fV 4) (fCons (fOp gAdd (fOp gAdd (fSl (fV 5) fNo (fSo (fV 7))) (fTup (fCons (fV 10) fNil))) (fSl (fV 5) (fSo (fOp gAdd (fV 7) (fC (.int 1)))) fNo)) (fCons (fV 6) fNil)))
theorem bentOne_eq {a0 a1 a2 a3 a8 a9 a11 a12 : Option D} {nm r one : D} {cs : List D} {p : Nat} (hp : p < cs.length) (hc : cs.length ≤ 10) (M : Mem) :
    bentOne [a0, a1, a2, a3, some nm, some (.tup cs), some r, some (.int (p : Nat)), a8, a9, some one, a11, a12] M = some (.tup [nm, .tup (bentCols cs p one), r], M) := by
  have e1 : fSl (fV 5) fNo (fSo (fV 7)) [a0, a1, a2, a3, some nm, some (.tup cs), some r, some (.int (p : Nat)), a8, a9, some one, a11, a12] M = some (.tup (cs.take p), M) := by
    show some (D.tup (PV.cutD cs none (some (p : Int))), M) = _
    rw [cut_to]
  have e2 : fSl (fV 5) (fSo (fOp gAdd (fV 7) (fC (.int 1)))) fNo [a0, a1, a2, a3, some nm, some (.tup cs), some r, some (.int (p : Nat)), a8, a9, some one, a11, a12] M = some (.tup (cs.drop (p + 1)), M) := by
    show some (D.tup (PV.cutD cs (some ((p : Int) + 1)) none), M) = _
    rw [show ((p : Int) + 1) = ((p + 1 : Nat) : Int) from rfl, cut_from]
  have e3 : fOp gAdd (fOp gAdd (fSl (fV 5) fNo (fSo (fV 7))) (fTup (fCons (fV 10) fNil))) (fSl (fV 5) (fSo (fOp gAdd (fV 7) (fC (.int 1)))) fNo) [a0, a1, a2, a3, some nm, some (.tup cs), some r, some (.int (p : Nat)), a8, a9, some one, a11, a12] M = some (.tup (bentCols cs p one), M) := by
    rw [fOp_def, fOp_def, e1]
    have e4 : fTup (fCons (fV 10) fNil) [a0, a1, a2, a3, some nm, some (.tup cs), some r, some (.int (p : Nat)), a8, a9, some one, a11, a12] M = some (.tup [one], M) := rfl
    simp only [bindO_s]
    rw [e4]
    simp only [bindO_s]
    rw [addT (by simp; omega)]
    simp only [pairO_s, bindO_s]
    rw [e2]
    simp only [bindO_s]
    rw [addT (by simp; omega)]
    rfl
  unfold bentOne
  have e0 : fCons (fV 4) (fCons (fOp gAdd (fOp gAdd (fSl (fV 5) fNo (fSo (fV 7))) (fTup (fCons (fV 10) fNil))) (fSl (fV 5) (fSo (fOp gAdd (fV 7) (fC (.int 1)))) fNo)) (fCons (fV 6) fNil)) [a0, a1, a2, a3, some nm, some (.tup cs), some r, some (.int (p : Nat)), a8, a9, some one, a11, a12] M = some ([nm, .tup (bentCols cs p one), r], M) := by
    have v4 : fV 4 [a0, a1, a2, a3, some nm, some (.tup cs), some r, some (.int (p : Nat)), a8, a9, some one, a11, a12] M = some (nm, M) := rfl
    rw [fCons_def, v4]
    simp only [bindO_s]
    rw [fCons_def, e3]
    rfl
  rw [fTup_def, e0]
  rfl
/-- the seven columns that are put in -/
def sevenF : FL := fLst (fCons (fOp gAdd (fTup (fCons (fV 3) fNil)) (fSl (fV 8) (fSo (fC (.int 1))) fNo)) (fCons (fTup (fCons (fOp gIx (fV 8) (fC (.int 0))) (fCons (fV 3) (fCons (fOp gIx (fV 8) (fC (.int 2))) fNil)))) (fCons (fTup (fCons (fOp gIx (fV 8) (fC (.int 0))) (fCons (fOp gIx (fV 8) (fC (.int 1))) (fCons (fV 3) fNil)))) (fCons (fSl (fV 8) fNo (fSo (fC (.int 2)))) (fCons (fNote (fListOf (fV 8))) (fCons (fV 3) (fCons (fOp gIx (fV 5) (fC (.int 0))) fNil)))))))
def seven (odd w k v c0 : D) (m : Nat) : List D := [.tup [odd, k, v], .tup [w, odd, v], .tup [w, k, odd], .tup [w, k], .ref m, odd, c0]
theorem seven_eq {a0 a1 a2 a4 a6 a7 a9 a10 a11 a12 : Option D} {odd w k v c0 : D} {cr : List D} (M : Mem) :
    sevenF [a0, a1, a2, some odd, a4, some (.tup (c0 :: cr)), a6, a7, some (.tup [w, k, v]), a9, a10, a11, a12] M = some (seven odd w k v c0 M.length, M ++ [.lst [w, k, v]]) := by
  have e1 : fOp gAdd (fTup (fCons (fV 3) fNil)) (fSl (fV 8) (fSo (fC (.int 1))) fNo) [a0, a1, a2, some odd, a4, some (.tup (c0 :: cr)), a6, a7, some (.tup [w, k, v]), a9, a10, a11, a12] = fun M => some (.tup [odd, k, v], M) := by
    funext M
    rw [fOp_def]
    have q1 : fTup (fCons (fV 3) fNil) [a0, a1, a2, some odd, a4, some (.tup (c0 :: cr)), a6, a7, some (.tup [w, k, v]), a9, a10, a11, a12] M = some (.tup [odd], M) := rfl
    have q2 : fSl (fV 8) (fSo (fC (.int 1))) fNo [a0, a1, a2, some odd, a4, some (.tup (c0 :: cr)), a6, a7, some (.tup [w, k, v]), a9, a10, a11, a12] M = some (.tup [k, v], M) := by
      show some (D.tup (PV.cutD [w, k, v] (some (1 : Int)) none), M) = _
      rw [show (1 : Int) = ((1 : Nat) : Int) from rfl, cut_from]
      rfl
    rw [q1]
    simp only [bindO_s]
    rw [q2]
    rfl
  have e2 : fTup (fCons (fOp gIx (fV 8) (fC (.int 0))) (fCons (fV 3) (fCons (fOp gIx (fV 8) (fC (.int 2))) fNil))) [a0, a1, a2, some odd, a4, some (.tup (c0 :: cr)), a6, a7, some (.tup [w, k, v]), a9, a10, a11, a12] = fun M => some (.tup [w, odd, v], M) := by
    funext M
    rfl
  have e3 : fTup (fCons (fOp gIx (fV 8) (fC (.int 0))) (fCons (fOp gIx (fV 8) (fC (.int 1))) (fCons (fV 3) fNil))) [a0, a1, a2, some odd, a4, some (.tup (c0 :: cr)), a6, a7, some (.tup [w, k, v]), a9, a10, a11, a12] = fun M => some (.tup [w, k, odd], M) := by
    funext M
    rfl
  have e4 : fSl (fV 8) fNo (fSo (fC (.int 2))) [a0, a1, a2, some odd, a4, some (.tup (c0 :: cr)), a6, a7, some (.tup [w, k, v]), a9, a10, a11, a12] = fun M => some (.tup [w, k], M) := by
    funext M
    show some (D.tup (PV.cutD [w, k, v] none (some (2 : Int))), M) = _
    rw [show (2 : Int) = ((2 : Nat) : Int) from rfl, cut_to]
    rfl
  have e5 : fNote (fListOf (fV 8)) [a0, a1, a2, some odd, a4, some (.tup (c0 :: cr)), a6, a7, some (.tup [w, k, v]), a9, a10, a11, a12] = fun M => some (.ref M.length, M ++ [.lst [w, k, v]]) := by
    funext M
    rfl
  have e6 : fV 3 [a0, a1, a2, some odd, a4, some (.tup (c0 :: cr)), a6, a7, some (.tup [w, k, v]), a9, a10, a11, a12] = fun M => some (odd, M) := by
    funext M
    rfl
  have e7 : fOp gIx (fV 5) (fC (.int 0)) [a0, a1, a2, some odd, a4, some (.tup (c0 :: cr)), a6, a7, some (.tup [w, k, v]), a9, a10, a11, a12] = fun M => some (c0, M) := by
    funext M
    rw [fOp_def]
    show bindO (some (D.tup (c0 :: cr), M)) _ = _
    simp only [bindO_s, fC_s, gIx_0, pairO_s]
  rw [sevenF, fLst_def, fCons_def, e1]
  simp only [bindO_s]
  rw [fCons_def, e2]
  simp only [bindO_s]
  rw [fCons_def, e3]
  simp only [bindO_s]
  rw [fCons_def, e4]
  simp only [bindO_s]
  rw [fCons_def, e5]
  simp only [bindO_s]
  rw [fCons_def, e6]
  simp only [bindO_s]
  rw [fCons_def, e7]
  rfl
end K01

-- K01Y
namespace K01
open PySem PySem.Spec PyProof.Rows L2 PV
def baseF : FL := fLst (fCons (fTup (fCons (fV 3) (fCons (fV 5) (fCons (fV 6) fNil)))) (fCons (fTup (fCons (fV 4) (fCons (fV 3) (fCons (fV 6) fNil)))) (fCons (fTup (fCons (fV 4) (fCons (fV 5) (fCons (fV 3) fNil)))) (fCons (fTup (fCons (fV 4) (fCons (fNote (fListOf (fV 5))) (fCons (fV 6) fNil)))) (fCons (fV 3) fNil)))))
def base5 (odd nm r : D) (cs : List D) (m : Nat) : List D := [.tup [odd, .tup cs, r], .tup [nm, odd, r], .tup [nm, .tup cs, odd], .tup [nm, .ref m, r], odd]
theorem base_eq {a0 a1 a2 a7 a8 a9 a10 a11 a12 : Option D} {odd nm r : D} {cs : List D} (M : Mem) :
    fNote baseF [a0, a1, a2, some odd, some nm, some (.tup cs), some r, a7, a8, a9, a10, a11, a12] M = some (.ref (M.length + 1), M ++ [.lst cs, .lst (base5 odd nm r cs M.length)]) := by
  have e : baseF [a0, a1, a2, some odd, some nm, some (.tup cs), some r, a7, a8, a9, a10, a11, a12] M = some (base5 odd nm r cs M.length, M ++ [.lst cs]) := rfl
  unfold fNote
  rw [e]
  simp
/-- the last lists -/
def moreF : FE := fTup (fLc (iVal (fC (.str "ghijklm"))) [12] (hName 12) fYes (fTup (fCons (fV 12) (fCons (fC (.str "number")) (fCons (fC (.int 9)) fNil)))))
def more7 : List D := (PV.signs "ghijklm").map fun d => .tup [d, .str "number", .int 9]
theorem more_eq {a0 a1 a2 a3 a4 a5 a6 a7 a8 a9 a10 a11 a12 : Option D} (M : Mem) : moreF [a0, a1, a2, a3, a4, a5, a6, a7, a8, a9, a10, a11, a12] M = some (.tup more7, M) := by
  have e := fLc_all (i := iVal (fC (.str "ghijklm"))) (vs := [12]) (h := hName 12) (f := fTup (fCons (fV 12) (fCons (fC (.str "number")) (fCons (fC (.int 9)) fNil)))) (env := [a0, a1, a2, a3, a4, a5, a6, a7, a8, a9, a10, a11, a12]) (M := M) (xs := PV.signs "ghijklm")
    (fun d => .tup [d, .str "number", .int 9]) rfl (by decide) fun d m => ⟨_, rfl, rfl⟩
  rw [moreF, fTup_def, e]
  rfl
def fourF : FL := fLst (fCons (fTup (fCons (fV 4) (fCons (fSl (fV 11) fNo (fSo (fOp gModI (fOp gIx (fV 0) (fC (.int 3))) (fC (.int 8))))) (fCons (fV 6) fNil)))) (fCons (fTup (fCons (fV 4) (fCons (fV 5) (fCons (fC (.str "rows")) fNil)))) (fCons (fTup (fCons (fV 4) (fCons (fTup fNil) (fCons (fV 6) fNil)))) (fCons (fOp gIx (fV 1) (fC (.int 0))) fNil))))
def four (nm r T0 : D) (cs : List D) (k3 : Nat) : List D := [.tup [nm, .tup (more7.take k3), r], .tup [nm, .tup cs, .str "rows"], .tup [nm, .tup [], r], T0]
theorem four_eq {a2 a3 a7 a8 a9 a10 a12 : Option D} {n k3 : Nat} {nm r T0 : D} {Tr cs : List D} {M : Mem}
    (h3 : ∀ (e : Vars), fOp gModI (fOp gIx (fV 0) (fC (.int 3))) (fC (.int 8)) (some (.ref n) :: e) M = some (.int (k3 : Nat), M)) :
    fourF [some (.ref n), some (.tup (T0 :: Tr)), a2, a3, some nm, some (.tup cs), some r, a7, a8, a9, a10, some (.tup more7), a12] M = some (four nm r T0 cs k3, M) := by
  have e1 : fTup (fCons (fV 4) (fCons (fSl (fV 11) fNo (fSo (fOp gModI (fOp gIx (fV 0) (fC (.int 3))) (fC (.int 8))))) (fCons (fV 6) fNil))) [some (.ref n), some (.tup (T0 :: Tr)), a2, a3, some nm, some (.tup cs), some r, a7, a8, a9, a10, some (.tup more7), a12] M = some (.tup [nm, .tup (more7.take k3), r], M) := by
    have q : fSl (fV 11) fNo (fSo (fOp gModI (fOp gIx (fV 0) (fC (.int 3))) (fC (.int 8)))) [some (.ref n), some (.tup (T0 :: Tr)), a2, a3, some nm, some (.tup cs), some r, a7, a8, a9, a10, some (.tup more7), a12] M = some (.tup (more7.take k3), M) := by
      have q0 : fSo (fOp gModI (fOp gIx (fV 0) (fC (.int 3))) (fC (.int 8))) [some (.ref n), some (.tup (T0 :: Tr)), a2, a3, some nm, some (.tup cs), some r, a7, a8, a9, a10, some (.tup more7), a12] M = some (some (k3 : Int), M) := by
        unfold fSo
        rw [h3]
        rfl
      show bindO (some (D.tup more7, M)) (fun d M1 => bindO (some (none, M1)) fun l M2 => bindO (fSo (fOp gModI (fOp gIx (fV 0) (fC (.int 3))) (fC (.int 8))) [some (.ref n), some (.tup (T0 :: Tr)), a2, a3, some nm, some (.tup cs), some r, a7, a8, a9, a10, some (.tup more7), a12] M2) _) = _
      simp only [bindO_s]
      rw [q0]
      simp only [bindO_s]
      rw [cut_to]
    have v4 : fV 4 [some (.ref n), some (.tup (T0 :: Tr)), a2, a3, some nm, some (.tup cs), some r, a7, a8, a9, a10, some (.tup more7), a12] M = some (nm, M) := rfl
    rw [fTup_def, fCons_def, v4]
    simp only [bindO_s]
    rw [fCons_def, q]
    rfl
  have e2 : fTup (fCons (fV 4) (fCons (fV 5) (fCons (fC (.str "rows")) fNil))) [some (.ref n), some (.tup (T0 :: Tr)), a2, a3, some nm, some (.tup cs), some r, a7, a8, a9, a10, some (.tup more7), a12] M = some (.tup [nm, .tup cs, .str "rows"], M) := rfl
  have e3 : fTup (fCons (fV 4) (fCons (fTup fNil) (fCons (fV 6) fNil))) [some (.ref n), some (.tup (T0 :: Tr)), a2, a3, some nm, some (.tup cs), some r, a7, a8, a9, a10, some (.tup more7), a12] M = some (.tup [nm, .tup [], r], M) := rfl
  have e4 : fOp gIx (fV 1) (fC (.int 0)) [some (.ref n), some (.tup (T0 :: Tr)), a2, a3, some nm, some (.tup cs), some r, a7, a8, a9, a10, some (.tup more7), a12] M = some (T0, M) := by
    rw [fOp_def]
    show bindO (some (D.tup (T0 :: Tr), M)) _ = _
    simp only [bindO_s, fC_s, gIx_0, pairO_s]
  rw [fourF, fLst_def, fCons_def, e1]
  simp only [bindO_s]
  rw [fCons_def, e2]
  simp only [bindO_s]
  rw [fCons_def, e3]
  simp only [bindO_s]
  rw [fCons_def, e4]
  rfl
def twoF : FL := fLst (fCons (fTup (fCons (fV 4) (fCons (fTup (fCons (fTup (fCons (fOp gIx (fV 8) (fC (.int 0))) (fCons (fC (.str "person")) (fCons (fC (.int 0)) fNil)))) fNil)) (fCons (fV 6) fNil)))) (fCons (fTup (fCons (fV 4) (fCons (fTup (fCons (fTup (fCons (fOp gIx (fV 8) (fC (.int 0))) (fCons (fC (.str "number")) (fCons (fC (.int 10)) fNil)))) fNil)) (fCons (fV 6) fNil)))) fNil))
def two (nm r w : D) : List D := [.tup [nm, .tup [.tup [w, .str "person", .int 0]], r], .tup [nm, .tup [.tup [w, .str "number", .int 10]], r]]
theorem two_eq {a0 a1 a2 a3 a5 a7 a9 a10 a11 a12 : Option D} {nm r w k v : D} {M : Mem} :
    twoF [a0, a1, a2, a3, some nm, a5, some r, a7, some (.tup [w, k, v]), a9, a10, a11, a12] M = some (two nm r w, M) := rfl
/-- the loop over the seven -/
theorem bent_loop {a0 a1 a2 a3 a8 a11 a12 x10 : Option D} {nm r : D} {cs own items b0 : List D} {p : Nat} (hp : p < cs.length) (hc : cs.length ≤ 10) (M : Mem) (hb : b0.length + items.length ≤ 1000) :
    ∃ x, forD (hName 10) (gDrop (fAppend (fV 9) bentOne)) yes items [a0, a1, a2, a3, some nm, some (.tup cs), some r, some (.int (p : Nat)), a8, some (.ref (M.length + 1)), x10, a11, a12] (M ++ [.lst cs, .lst b0, .lst own])
      = some (.nx [a0, a1, a2, a3, some nm, some (.tup cs), some r, some (.int (p : Nat)), a8, some (.ref (M.length + 1)), x, a11, a12], M ++ [.lst cs, .lst (b0 ++ items.map fun one => .tup [nm, .tup (bentCols cs p one), r]), .lst own]) := by
  let P : Nat → Vars → Mem → Prop := fun i env Mm => ∃ x, env = [a0, a1, a2, a3, some nm, some (.tup cs), some r, some (.int (p : Nat)), a8, some (.ref (M.length + 1)), x, a11, a12] ∧ Mm = M ++ [.lst cs, .lst (b0 ++ (items.take i).map fun one => .tup [nm, .tup (bentCols cs p one), r]), .lst own]
  obtain ⟨env', M', e, x, rfl, rfl⟩ := forD_inv (h := hName 10) (f := gDrop (fAppend (fV 9) bentOne)) P items 0 _ (M ++ [.lst cs, .lst b0, .lst own]) ⟨x10, rfl, by simp⟩ fun i d env Mm hx hP => by
    obtain ⟨x, rfl, rfl⟩ := hP
    have hi := (List.getElem?_eq_some_iff.mp hx).1
    have z := append_eq (fo := fV 9) (f := bentOne) (env := [a0, a1, a2, a3, some nm, some (.tup cs), some r, some (.int (p : Nat)), a8, some (.ref (M.length + 1)), some d, a11, a12]) (n := M.length + 1) (M := M ++ [.lst cs, .lst (b0 ++ (items.take (0 + i)).map fun one => .tup [nm, .tup (bentCols cs p one), r]), .lst own]) rfl (bentOne_eq hp hc _) (mem_at M _ 1) (by simp; omega)
    refine ⟨_, _, _, rfl, .inl ?_, some d, rfl, rfl⟩
    show bindO (fAppend (fV 9) bentOne [a0, a1, a2, a3, some nm, some (.tup cs), some r, some (.int (p : Nat)), a8, some (.ref (M.length + 1)), some d, a11, a12] (M ++ [.lst cs, .lst (b0 ++ (items.take (0 + i)).map fun one => .tup [nm, .tup (bentCols cs p one), r]), .lst own])) _ = _
    rw [z]
    have q : items.take (0 + i + 1) = items.take (0 + i) ++ [d] := by
      rw [Nat.zero_add, List.take_add_one, hx]
      rfl
    rw [q]
    simp [List.set_append]
  refine ⟨x, ?_⟩
  rw [e]
  simp
end K01

-- K01B
namespace K01
open PySem PySem.Spec PyProof.Rows L2 PV
theorem catR_eq {f : FE} {g : FL} {env : Vars} {M : Mem} {n : Nat} {xs ys : List D} (hf : f env M = some (.ref n, M)) (hg : g env M = some (ys, M)) (hx : M[n]? = some (.lst xs)) (hl : xs.length + ys.length ≤ 100000) :
    fNote (fCatR f g) env M = some (.ref M.length, M ++ [.lst (xs ++ ys)]) := by
  unfold fNote fCatR
  rw [hf]
  simp only [bindO_s]
  rw [hg]
  simp only [bindO_s, hx]
  rw [if_pos hl]
  rfl
theorem x_bent {M : Mem} {n : Nat} {ds : List Int} (h : Dig M n ds) (hl : 5 ≤ ds.length) {T0 T1 T2 : D} (g0 : GoodTab T0) (g1 : GoodTab T1) (g2 : GoodTab T2) :
    ∃ (l : Mem) (C : Cst) (d : D), f__law_bent [.ref n, .tup [T0, T1, T2]] M = some (d, M ++ l) ∧ Has (M ++ l) C ∧ Thing C d := by
  obtain ⟨k0, a0, e0⟩ := h.mod (j := 0) (by omega) 3 (by decide)
  obtain ⟨odd, lo, C, eo, hodd, hC⟩ := x_odd (i := ds[1]) (h.nn _ (List.getElem_mem _)) M
  let Ts : List D := [T0, T1, T2]
  have hk0 : k0 < Ts.length := a0
  have gT : ∀ t ∈ Ts, GoodTab t := mem3 (P := GoodTab) g0 g1 g2
  obtain ⟨nm, r, cs, eT, hT⟩ := (gT _ (List.getElem_mem hk0)).is (C := C)
  let M1 : Mem := M ++ lo
  have h1 : Dig M1 n ds := h.ext lo
  -- the place
  have hcs0 : 0 < cs.length := hT.l1
  have hcs3 : cs.length ≤ 3 := hT.l3
  obtain ⟨p, hp, ep⟩ := h1.mod (j := 2) (by omega) cs.length hcs0
  obtain ⟨w, k, v, ew, kw, kk, kv⟩ := (hT.cs _ (List.getElem_mem hp)).item (C := C)
  obtain ⟨k3, a3, e3⟩ := h1.mod (j := 3) (by omega) 8 (by decide)
  obtain ⟨k4, a4, e4⟩ := h1.mod (j := 4) (by omega) 18 (by decide)
  obtain ⟨c0, cr, ecs⟩ : ∃ c0 cr, cs = c0 :: cr := by
    cases cs with
    | nil => exact absurd hcs0 (by simp)
    | cons c0 cr => exact ⟨c0, cr, rfl⟩
  -- what the lists are
  let m : Nat := M1.length
  let b0 : List D := base5 odd (.str nm) (.str r) cs m
  let it : List D := seven odd w k v c0 (m + 2)
  let L12 : List D := b0 ++ it.map fun one => .tup [.str nm, .tup (bentCols cs p one), .str r]
  let L16 : List D := L12 ++ four (.str nm) (.str r) T0 cs k3
  let L18 : List D := L16 ++ two (.str nm) (.str r) w
  let M2 : Mem := M1 ++ [.lst cs, .lst L12, .lst [w, k, v]]
  have l18 : L18.length = 18 := rfl
  have hk4 : k4 < L18.length := by rw [l18]; exact a4
  let res : List D := Ts.take k0 ++ [L18[k4]] ++ Ts.drop (k0 + 1)
  -- the run
  have s1 : gPar (fCons (fOp gModI (fOp gIx (fV 0) (fC (.int 0))) (fC (.int 3))) (fCons (fDef f__law_odd (fCons (fOp gIx (fV 0) (fC (.int 1))) fNil)) fNil)) 2 3 [some (.ref n), some (.tup Ts), none, none, none, none, none, none, none, none, none, none, none] M
      = some (.nx [some (.ref n), some (.tup Ts), some (.int (k0 : Nat)), some odd, none, none, none, none, none, none, none, none, none], M1) := by
    have q0 : fOp gModI (fOp gIx (fV 0) (fC (.int 0))) (fC (.int 3)) [some (.ref n), some (.tup Ts), none, none, none, none, none, none, none, none, none, none, none] M = some (.int (k0 : Nat), M) := by
      have z := e0 [some (.tup Ts), none, none, none, none, none, none, none, none, none, none, none] []
      rw [List.append_nil] at z
      exact z
    have q1 : fDef f__law_odd (fCons (fOp gIx (fV 0) (fC (.int 1))) fNil) [some (.ref n), some (.tup Ts), none, none, none, none, none, none, none, none, none, none, none] M = some (odd, M1) := by
      have z : fOp gIx (fV 0) (fC (.int 1)) [some (.ref n), some (.tup Ts), none, none, none, none, none, none, none, none, none, none, none] M = some (.int ds[1], M) := by
        rw [fOp_def]
        show bindO (some (D.ref n, M)) _ = _
        simp only [bindO_s, fC_s]
        rw [show (1 : Int) = ((1 : Nat) : Int) from rfl, h.ix (j := 1) (by omega)]
        rfl
      unfold fDef
      rw [fCons_def, z]
      exact eo
    unfold gPar
    rw [fCons_def, q0]
    simp only [bindO_s]
    rw [fCons_def, q1]
    rfl
  have s2 : gAsg (fOp gIx (fV 1) (fV 2)) (hTup 3 (hCons (hName 4) (hCons (hName 5) (hCons (hName 6) hNil)))) [some (.ref n), some (.tup Ts), some (.int (k0 : Nat)), some odd, none, none, none, none, none, none, none, none, none] M1
      = some (.nx [some (.ref n), some (.tup Ts), some (.int (k0 : Nat)), some odd, some (.str nm), some (.tup cs), some (.str r), none, none, none, none, none, none], M1) := by
    unfold gAsg
    rw [fOp_def]
    show bindO (bindO (some (D.tup Ts, M1)) fun x M1 => bindO (some (D.int (k0 : Nat), M1)) fun y M2 => pairO (gIx M2 x y) M2) _ = _
    simp only [bindO_s]
    rw [tup_ix hk0, eT]
    rfl
  have s3 : fOp gModI (fOp gIx (fV 0) (fC (.int 2))) (fCall gLen (fCons (fV 5) fNil)) [some (.ref n), some (.tup Ts), some (.int (k0 : Nat)), some odd, some (.str nm), some (.tup cs), some (.str r), none, none, none, none, none, none] M1 = some (.int (p : Nat), M1) := by
    have z := ep [some (.tup Ts), some (.int (k0 : Nat)), some odd, some (.str nm), some (.tup cs), some (.str r), none, none, none, none, none, none] []
    rw [List.append_nil] at z
    exact z
  have s4 : fOp gIx (fV 5) (fV 7) [some (.ref n), some (.tup Ts), some (.int (k0 : Nat)), some odd, some (.str nm), some (.tup cs), some (.str r), some (.int (p : Nat)), none, none, none, none, none] M1 = some (.tup [w, k, v], M1) := by
    rw [fOp_def]
    show bindO (some (D.tup cs, M1)) (fun x M1 => bindO (some (D.int (p : Nat), M1)) fun y M2 => pairO (gIx M2 x y) M2) = _
    simp only [bindO_s]
    rw [tup_ix hp, ew]
    rfl
  have s5 := base_eq (a0 := some (.ref n)) (a1 := some (.tup Ts)) (a2 := some (.int (k0 : Nat))) (a7 := some (.int (p : Nat))) (a8 := some (.tup [w, k, v])) (a9 := none) (a10 := none) (a11 := none) (a12 := none) (odd := odd) (nm := .str nm) (r := .str r) (cs := cs) M1
  have s6 : sevenF [some (.ref n), some (.tup Ts), some (.int (k0 : Nat)), some odd, some (.str nm), some (.tup cs), some (.str r), some (.int (p : Nat)), some (.tup [w, k, v]), some (.ref (M1.length + 1)), none, none, none] (M1 ++ [.lst cs, .lst b0]) = some (it, M1 ++ [.lst cs, .lst b0, .lst [w, k, v]]) := by
    have z := seven_eq (a0 := some (.ref n)) (a1 := some (.tup Ts)) (a2 := some (.int (k0 : Nat))) (a4 := some (.str nm)) (a6 := some (.str r)) (a7 := some (.int (p : Nat))) (a9 := some (.ref (M1.length + 1))) (a10 := none) (a11 := none) (a12 := none) (odd := odd) (w := w) (k := k) (v := v) (c0 := c0) (cr := cr) (M1 ++ [.lst cs, .lst b0])
    rw [ecs] at z ⊢
    rw [z]
    have q : (M1 ++ [Ob.lst (c0 :: cr), Ob.lst b0]).length = m + 2 := by simp [m]
    rw [q, List.append_assoc]
    rfl
  obtain ⟨x10, s7⟩ := bent_loop (a0 := some (.ref n)) (a1 := some (.tup Ts)) (a2 := some (.int (k0 : Nat))) (a3 := some odd) (a8 := some (.tup [w, k, v])) (a11 := none) (a12 := none) (x10 := none) (nm := .str nm) (r := .str r) (cs := cs) (own := [w, k, v]) (items := it) (b0 := b0) hp (by omega) M1 (show 5 + 7 ≤ 1000 by decide)
  have s8 := more_eq (a0 := some (.ref n)) (a1 := some (.tup Ts)) (a2 := some (.int (k0 : Nat))) (a3 := some odd) (a4 := some (.str nm)) (a5 := some (.tup cs)) (a6 := some (.str r)) (a7 := some (.int (p : Nat))) (a8 := some (.tup [w, k, v])) (a9 := some (.ref (M1.length + 1))) (a10 := x10) (a11 := none) (a12 := none) M2
  have s9 : fNote (fCatR (fV 9) fourF) [some (.ref n), some (.tup Ts), some (.int (k0 : Nat)), some odd, some (.str nm), some (.tup cs), some (.str r), some (.int (p : Nat)), some (.tup [w, k, v]), some (.ref (M1.length + 1)), x10, some (.tup more7), none] M2 = some (.ref M2.length, M2 ++ [.lst L16]) :=
    catR_eq rfl (four_eq (Tr := [T1, T2]) fun e => e3 e _) (mem_at M1 _ 1) (show 12 + 4 ≤ 100000 by decide)
  have s10 : fNote (fCatR (fV 9) twoF) [some (.ref n), some (.tup Ts), some (.int (k0 : Nat)), some odd, some (.str nm), some (.tup cs), some (.str r), some (.int (p : Nat)), some (.tup [w, k, v]), some (.ref M2.length), x10, some (.tup more7), none] (M2 ++ [.lst L16]) = some (.ref (M2 ++ [Ob.lst L16]).length, M2 ++ [Ob.lst L16] ++ [Ob.lst L18]) :=
    catR_eq (xs := L16) (ys := two (.str nm) (.str r) w) rfl two_eq (mem_at0 M2 _) (show 16 + 2 ≤ 100000 by decide)
  let M3 : Mem := M2 ++ [Ob.lst L16] ++ [Ob.lst L18]
  let en : Vars := [some (.ref n), some (.tup Ts), some (.int (k0 : Nat)), some odd, some (.str nm), some (.tup cs), some (.str r), some (.int (p : Nat)), some (.tup [w, k, v]), some (.ref (M2 ++ [Ob.lst L16]).length), x10, some (.tup more7), none]
  have s11 : fOp gAdd (fOp gAdd (fSl (fV 1) fNo (fSo (fV 2))) (fTup (fCons (fOp gIx (fV 9) (fOp gModI (fOp gIx (fV 0) (fC (.int 4))) (fC (.int 18)))) fNil))) (fSl (fV 1) (fSo (fOp gAdd (fV 2) (fC (.int 1)))) fNo) en M3 = some (.tup res, M3) := by
    have q1 : fSl (fV 1) fNo (fSo (fV 2)) en M3 = some (.tup (Ts.take k0), M3) := by
      show some (D.tup (PV.cutD Ts none (some (k0 : Int))), M3) = _
      rw [cut_to]
    have q2 : fSl (fV 1) (fSo (fOp gAdd (fV 2) (fC (.int 1)))) fNo en M3 = some (.tup (Ts.drop (k0 + 1)), M3) := by
      show some (D.tup (PV.cutD Ts (some ((k0 : Int) + 1)) none), M3) = _
      rw [show ((k0 : Int) + 1) = ((k0 + 1 : Nat) : Int) from rfl, cut_from]
    have q3 : fTup (fCons (fOp gIx (fV 9) (fOp gModI (fOp gIx (fV 0) (fC (.int 4))) (fC (.int 18)))) fNil) en M3 = some (.tup [L18[k4]], M3) := by
      have z4 : fOp gModI (fOp gIx (fV 0) (fC (.int 4))) (fC (.int 18)) en M3 = some (.int (k4 : Nat), M3) := by
        have z := e4 en.tail ([.lst cs, .lst L12, .lst [w, k, v]] ++ [Ob.lst L16] ++ [Ob.lst L18])
        have eM : M1 ++ ([Ob.lst cs, .lst L12, .lst [w, k, v]] ++ [Ob.lst L16] ++ [Ob.lst L18]) = M3 := by
          show _ = M1 ++ [Ob.lst cs, .lst L12, .lst [w, k, v]] ++ [Ob.lst L16] ++ [Ob.lst L18]
          simp only [List.append_assoc]
        rw [eM] at z
        exact z
      have zi : fOp gIx (fV 9) (fOp gModI (fOp gIx (fV 0) (fC (.int 4))) (fC (.int 18))) en M3 = some (L18[k4], M3) := by
        rw [fOp_def]
        show bindO (some (D.ref (M2 ++ [Ob.lst L16]).length, M3)) _ = _
        simp only [bindO_s]
        rw [z4]
        simp only [bindO_s]
        have zz : gIx M3 (.ref (M2 ++ [Ob.lst L16]).length) (.int (k4 : Nat)) = some L18[k4] := by
          show (match M3[(M2 ++ [Ob.lst L16]).length]? with
            | some (.lst xs) => L2.atI xs (k4 : Nat)
            | none => none) = _
          rw [show M3 = (M2 ++ [Ob.lst L16]) ++ [Ob.lst L18] from rfl, mem_at0]
          exact L2.atI_nat (List.getElem?_eq_getElem hk4)
        rw [zz]
        rfl
      rw [fTup_def, fCons_def, zi]
      rfl
    rw [fOp_def, fOp_def, q1]
    simp only [bindO_s]
    rw [q3]
    simp only [bindO_s]
    rw [addT (by
      have : (Ts.take k0).length ≤ 3 := List.length_take_le' _ _
      rw [List.length_singleton]
      omega)]
    simp only [pairO_s, bindO_s]
    rw [q2]
    simp only [bindO_s]
    rw [addT (by
      have h1 : (Ts.take k0).length ≤ 3 := List.length_take_le' _ _
      have h2 : (Ts.drop (k0 + 1)).length ≤ 3 := by
        rw [List.length_drop]
        exact Nat.sub_le _ _
      rw [List.length_append, List.length_singleton]
      omega)]
    rfl
  have hg : g__law_bent [some (.ref n), some (.tup Ts), none, none, none, none, none, none, none, none, none, none, none] M = some (.rt (.tup res), M3) := by
    unfold g__law_bent gSeq
    rw [s1]
    simp only [bindO_s]
    rw [s2]
    simp only [bindO_s]
    unfold gSet
    rw [s3]
    simp only [bindO_s, List.set_cons_succ, List.set_cons_zero]
    rw [s4]
    simp only [bindO_s, List.set_cons_succ, List.set_cons_zero]
    have s5' := s5
    unfold baseF at s5'
    rw [s5']
    simp only [bindO_s, List.set_cons_succ, List.set_cons_zero]
    have s67 : gFor (iNew sevenF) (hName 10) (gDrop (fAppend (fV 9) bentOne)) [some (.ref n), some (.tup Ts), some (.int (k0 : Nat)), some odd, some (.str nm), some (.tup cs), some (.str r), some (.int (p : Nat)), some (.tup [w, k, v]), some (.ref (M1.length + 1)), none, none, none] (M1 ++ [.lst cs, .lst b0])
        = some (.nx [some (.ref n), some (.tup Ts), some (.int (k0 : Nat)), some odd, some (.str nm), some (.tup cs), some (.str r), some (.int (p : Nat)), some (.tup [w, k, v]), some (.ref (M1.length + 1)), x10, none, none], M2) := by
      unfold gFor iNew
      rw [s6]
      simp only [bindO_s]
      rw [s7]
    unfold sevenF bentOne at s67
    rw [s67]
    simp only [bindO_s]
    have s8' := s8
    unfold moreF at s8'
    rw [s8']
    simp only [bindO_s, List.set_cons_succ, List.set_cons_zero]
    have s9' := s9
    unfold fourF at s9'
    rw [s9']
    simp only [bindO_s, List.set_cons_succ, List.set_cons_zero]
    have s10' := s10
    unfold twoF at s10'
    rw [s10']
    simp only [bindO_s, List.set_cons_succ, List.set_cons_zero]
    unfold gRet
    rw [s11]
    rfl
  have hf : f__law_bent [.ref n, .tup Ts] M = some (.tup res, M3) := by
    unfold f__law_bent defD
    rw [if_pos (show [D.ref n, .tup Ts].length = 2 from rfl)]
    show bindO (g__law_bent [some (.ref n), some (.tup Ts), none, none, none, none, none, none, none, none, none, none, none] M) _ = _
    rw [hg]
    show some (trim M.length (.tup res) M3) = _
    rw [trim_deep rfl]
  -- the things
  let C' : Cst := (m, cs) :: (m + 2, [w, k, v]) :: C
  have sub : Sub C C' := fun q z => List.mem_cons_of_mem _ (List.mem_cons_of_mem _ z)
  have hHas : Has M3 C' := by
    have q : Has M2 C' := .cons (mem_at0 M1 _) (.cons (mem_at M1 _ 2) (hC.ext _))
    exact (q.ext _).ext _
  have oddC : Odd C' odd := hodd.sub sub
  have hTC : TabIs C' (.str nm) (.str r) cs := ⟨hT.n.sub sub, hT.r.sub sub, hT.l1, hT.l3, hT.cs⟩
  have kwC := kw.sub sub
  have kkC := kk.sub sub
  have kvC := kv.sub sub
  have cisC : ∀ c ∈ cs, CItem C' c := fun c z => (hT.cs c z).ci
  have ctC : CThing C' (.tup cs) := cth cisC (by omega)
  have itC : ∀ one ∈ it, CItem C' one := by
    intro one z
    simp only [it, seven, List.mem_cons, List.not_mem_nil, or_false] at z
    rcases z with rfl | rfl | rfl | rfl | rfl | rfl | rfl
    · exact cc3 oddC.kd kkC kvC
    · exact cc3 kwC oddC.kd kvC
    · exact cc3 kwC kkC oddC.kd
    · exact cc2 kwC kkC
    · exact ccR (xs := [w, k, v]) (List.mem_cons_of_mem _ (List.mem_cons_self)) (mem3 (P := Kd C') kwC kkC kvC) (by simp)
    · exact ccO oddC
    · exact cisC _ (by rw [ecs]; exact List.mem_cons_self)
  have kS : ∀ s : Str, okFlat (.str s) = true → Kd C' (.str s) := fun s z => okFlat_kd z
  have L18C : ∀ t ∈ L18, TThing C' t := by
    intro t z
    rcases List.mem_append.mp z with z | z
    · rcases List.mem_append.mp z with z | z
      · rcases List.mem_append.mp z with z | z
        · simp only [b0, base5, List.mem_cons, List.not_mem_nil, or_false] at z
          rcases z with rfl | rfl | rfl | rfl | rfl
          · exact tt3 oddC.kd ctC hTC.r
          · exact tt3 hTC.n (cthO oddC) hTC.r
          · exact tt3 hTC.n ctC oddC.kd
          · exact tt3 hTC.n (cthR (cs := cs) List.mem_cons_self cisC (by omega)) hTC.r
          · exact ttO oddC
        · obtain ⟨one, z1, rfl⟩ := List.mem_map.mp z
          exact tt3 hTC.n (cth (bentCols_mem cisC (itC one z1)) (by rw [bentCols_len cs hp]; omega)) hTC.r
      · simp only [four, List.mem_cons, List.not_mem_nil, or_false] at z
        rcases z with rfl | rfl | rfl | rfl
        · refine tt3 hTC.n (cth (fun c y => ?_) ?_) hTC.r
          · have y := List.mem_of_mem_take y
            unfold more7 at y
            obtain ⟨d, y1, rfl⟩ := List.mem_map.mp y
            have kd : Kd C' d := okFlat_kd (List.all_eq_true.mp (show (PV.signs "ghijklm").all okFlat = true by decide +kernel) d y1)
            exact cc3 kd (kS _ (by decide +kernel)) (okFlat_kd (by decide +kernel))
          · have : more7.length = 7 := by decide +kernel
            rw [List.length_take]
            omega
        · exact tt3 hTC.n ctC (kS _ (by decide +kernel))
        · exact tt3 hTC.n (cth (fun c y => (List.not_mem_nil y).elim) (by simp)) hTC.r
        · exact g0.tt
    · simp only [two, List.mem_cons, List.not_mem_nil, or_false] at z
      rcases z with rfl | rfl
      · refine tt3 hTC.n (cth (fun c y => ?_) (by simp)) hTC.r
        obtain rfl : c = _ := by simpa using y
        exact cc3 kwC (kS _ (by decide +kernel)) (okFlat_kd (by decide +kernel))
      · refine tt3 hTC.n (cth (fun c y => ?_) (by simp)) hTC.r
        obtain rfl : c = _ := by simpa using y
        exact cc3 kwC (kS _ (by decide +kernel)) (okFlat_kd (by decide +kernel))
  have hres : Thing C' (.tup res) := by
    refine thT (fun t z => ?_) ?_
    · simp only [res, List.mem_append, List.mem_singleton] at z
      rcases z with (z | rfl) | z
      · exact (gT t (List.mem_of_mem_take z)).tt
      · exact L18C _ (List.getElem_mem hk4)
      · exact (gT t (List.mem_of_mem_drop z)).tt
    · have h1 : (Ts.take k0).length ≤ 3 := List.length_take_le' _ _
      have h2 : (Ts.drop (k0 + 1)).length ≤ 3 := by
        rw [List.length_drop]
        exact Nat.sub_le _ _
      simp only [res, List.length_append, List.length_singleton]
      omega
  refine ⟨lo ++ ([.lst cs, .lst L12, .lst [w, k, v]] ++ [Ob.lst L16] ++ [Ob.lst L18]), C', .tup res, ?_, ?_, hres⟩
  · rw [hf]
    show some (D.tup res, M ++ lo ++ [Ob.lst cs, .lst L12, .lst [w, k, v]] ++ [Ob.lst L16] ++ [Ob.lst L18]) = _
    simp only [List.append_assoc]
  · have eM : M ++ (lo ++ ([Ob.lst cs, .lst L12, .lst [w, k, v]] ++ [Ob.lst L16] ++ [Ob.lst L18])) = M3 := by
      show _ = M ++ lo ++ [Ob.lst cs, .lst L12, .lst [w, k, v]] ++ [Ob.lst L16] ++ [Ob.lst L18]
      simp only [List.append_assoc]
    rw [eM]
    exact hHas
end K01

-- K01C
namespace PV
open PySem PySem.Spec PyProof.Rows L2
/-- a comprehension that lays new lists: each item's value comes with what it wants of the memory -/
theorem compD_grow {h : FG} {f : FE} {env : Vars} (R : Cst → D → Prop) (sub : ∀ C C' d, (∀ p ∈ C, p ∈ C') → R C d → R C' d) (I : Mem → Prop) (ext : ∀ M l, I M → I (M ++ l)) : ∀ (xs : List D) (M : Mem), I M →
    (∀ d ∈ xs, ∀ M, I M → ∃ env1 l C y, h d env = some env1 ∧ f env1 M = some (y, M ++ l) ∧ Has (M ++ l) C ∧ R C y) →
    ∃ ys l C, compD h fYes f yes env xs M = some (ys, M ++ l) ∧ ys.length = xs.length ∧ Has (M ++ l) C ∧ ∀ y ∈ ys, R C y
  | [], M, _, _ => ⟨[], [], [], by simp [compD, yes], rfl, .nil, fun _ m => (List.not_mem_nil m).elim⟩
  | d :: r, M, hM, H => by
    obtain ⟨env1, l, C, y, e1, e2, h1, h2⟩ := H d List.mem_cons_self M hM
    obtain ⟨ys, l', C', e3, e4, h3, h4⟩ := compD_grow R sub I ext r (M ++ l) (ext M l hM) fun d' m => H d' (List.mem_cons_of_mem _ m)
    refine ⟨y :: ys, l ++ l', C ++ C', ?_, by simp [e4], ?_, fun z m => ?_⟩
    · unfold compD
      rw [show yes M = true from rfl]
      simp only [e1, fYes_s, bindO_s]
      rw [e2]
      simp only [bindO_s]
      rw [e3]
      simp
    · rw [← List.append_assoc]
      exact .app (h1.ext l') h3
    · rcases List.mem_cons.mp m with rfl | m
      · exact sub _ _ _ (fun p m => List.mem_append_left _ m) h2
      · exact sub _ _ _ (fun p m => List.mem_append_right _ m) (h4 z m)
/-- a loop over what is walked, to its end -/
theorem forD_invA {h : FG} {f : FS} {al : Alive} (P : Nat → Vars → Mem → Prop) : ∀ (xs : List D) (j : Nat) (env : Vars) (M : Mem), P j env M → (∀ j env M, P j env M → al M = true) →
    (∀ i d env M, xs[i]? = some d → P (j + i) env M → ∃ env1 env2 M2, h d env = some env1 ∧ f env1 M = some (.nx env2, M2) ∧ P (j + i + 1) env2 M2) →
    ∃ env' M', forD h f al xs env M = some (.nx env', M') ∧ P (j + xs.length) env' M'
  | [], j, env, M, h0, ha, _ => ⟨env, M, by unfold forD; rw [ha j env M h0], h0⟩
  | d :: r, j, env, M, h0, ha, H => by
    obtain ⟨env1, env2, M2, e1, e2, h2⟩ := H 0 d env M rfl h0
    obtain ⟨env', M', e3, h3⟩ := forD_invA P r (j + 1) env2 M2 h2 ha fun i d' en Mn hd hp => by
      have z := H (i + 1) d' en Mn hd (by rw [show j + (i + 1) = j + 1 + i by omega]; exact hp)
      rw [show j + (i + 1) + 1 = j + 1 + i + 1 by omega] at z
      exact z
    refine ⟨env', M', ?_, by rw [List.length_cons, show j + (r.length + 1) = j + 1 + r.length by omega]; exact h3⟩
    unfold forD
    rw [ha j env M h0]
    simp only [e1]
    rw [e2]
    exact e3
end PV
namespace K01
open PySem PySem.Spec PyProof.Rows L2 PV
theorem repr_bool {f : FE} {env : Vars} {M : Mem} {b : Bool} (h : f env M = some (.bl b, M)) : fRepr f env M = some (.str (PyData.bool b).shown, M) :=
  fRepr_eq (q := .bool b) h rfl rfl (by simp [PyData.depth]) (by cases b <;> decide +kernel)
/-! ### the first look: names, worths, moments -/
def nameBody : FS := gSeq (gSet (fNote (fLst (fCons (fDef f__law_is_name (fCons (fV 6) fNil)) (fCons (fDef f__law_is_whole (fCons (fV 6) (fCons (fC (.int 0)) (fCons (fC (.int 9)) fNil)))) (fCons (fDef f__law_is_whole (fCons (fV 6) (fCons (fC (.int 0)) (fCons (fC (.int 999)) fNil)))) fNil))))) 10)
  (gIf (fTest (fOp gNe (fRepr (fNote (fLst (fCons (fDef f_is_name (fCons (fV 6) fNil)) (fCons (fDef f_is_worth (fCons (fV 6) fNil)) (fCons (fDef f_is_moment (fCons (fV 6) fNil)) fNil)))))) (fRepr (fV 10)))) (gRet (fC (.bl false))) gSkip)
theorem toQ_bools {M : Mem} {n : Nat} {a b c : Bool} (h : M[n]? = some (.lst [.bl a, .bl b, .bl c])) (k : Nat) : toQ M (k + 2) (.ref n) = some (.list [.bool a, .bool b, .bool c]) := by
  simp only [toQ, h]
  rfl
theorem bools_ok (a b c : Bool) : (PyData.list [.bool a, .bool b, .bool c]).shown.length ≤ 1000 := by
  cases a <;> cases b <;> cases c <;> decide +kernel
theorem name_body {x0 x1 x2 x3 x4 x5 x7 x8 x9 x10 x11 x12 x13 : Option D} {d : D} (hs : Small d) (M : Mem) :
    ∃ x l, nameBody [x0, x1, x2, x3, x4, x5, some d, x7, x8, x9, x10, x11, x12, x13] M = some (.nx [x0, x1, x2, x3, x4, x5, some d, x7, x8, x9, x, x11, x12, x13], M ++ l) := by
  let a := nameB d
  let b := withinB 0 9 d
  let c := withinB 0 999 d
  let L : List D := [.bl a, .bl b, .bl c]
  have e1 : fNote (fLst (fCons (fDef f__law_is_name (fCons (fV 6) fNil)) (fCons (fDef f__law_is_whole (fCons (fV 6) (fCons (fC (.int 0)) (fCons (fC (.int 9)) fNil)))) (fCons (fDef f__law_is_whole (fCons (fV 6) (fCons (fC (.int 0)) (fCons (fC (.int 999)) fNil)))) fNil)))) [x0, x1, x2, x3, x4, x5, some d, x7, x8, x9, x10, x11, x12, x13] M = some (.ref M.length, M ++ [.lst L]) := by
    have q1 : fDef f__law_is_name (fCons (fV 6) fNil) [x0, x1, x2, x3, x4, x5, some d, x7, x8, x9, x10, x11, x12, x13] M = some (.bl a, M) := v_lname hs M
    have q2 : fDef f__law_is_whole (fCons (fV 6) (fCons (fC (.int 0)) (fCons (fC (.int 9)) fNil))) [x0, x1, x2, x3, x4, x5, some d, x7, x8, x9, x10, x11, x12, x13] M = some (.bl b, M) := v_lwhole d 0 9 M
    have q3 : fDef f__law_is_whole (fCons (fV 6) (fCons (fC (.int 0)) (fCons (fC (.int 999)) fNil))) [x0, x1, x2, x3, x4, x5, some d, x7, x8, x9, x10, x11, x12, x13] M = some (.bl c, M) := v_lwhole d 0 999 M
    unfold fNote
    rw [fLst_def, fCons_def, q1]
    simp only [bindO_s]
    rw [fCons_def, q2]
    simp only [bindO_s]
    rw [fCons_def, q3]
    rfl
  let M1 : Mem := M ++ [.lst L]
  have e2 : fNote (fLst (fCons (fDef f_is_name (fCons (fV 6) fNil)) (fCons (fDef f_is_worth (fCons (fV 6) fNil)) (fCons (fDef f_is_moment (fCons (fV 6) fNil)) fNil)))) [x0, x1, x2, x3, x4, x5, some d, x7, x8, x9, some (.ref M.length), x11, x12, x13] M1 = some (.ref M1.length, M1 ++ [.lst L]) := by
    have q1 : fDef f_is_name (fCons (fV 6) fNil) [x0, x1, x2, x3, x4, x5, some d, x7, x8, x9, some (.ref M.length), x11, x12, x13] M1 = some (.bl a, M1) := v_name hs M1
    have q2 : fDef f_is_worth (fCons (fV 6) fNil) [x0, x1, x2, x3, x4, x5, some d, x7, x8, x9, some (.ref M.length), x11, x12, x13] M1 = some (.bl b, M1) := v_worth d M1
    have q3 : fDef f_is_moment (fCons (fV 6) fNil) [x0, x1, x2, x3, x4, x5, some d, x7, x8, x9, some (.ref M.length), x11, x12, x13] M1 = some (.bl c, M1) := v_moment d M1
    unfold fNote
    rw [fLst_def, fCons_def, q1]
    simp only [bindO_s]
    rw [fCons_def, q2]
    simp only [bindO_s]
    rw [fCons_def, q3]
    rfl
  let M2 : Mem := M1 ++ [.lst L]
  have t1 : M2[M1.length]? = some (.lst L) := mem_at0 M1 _
  have t2 : M2[M.length]? = some (.lst L) := by
    show (M ++ [Ob.lst L] ++ [Ob.lst L])[M.length]? = _
    rw [List.append_assoc]
    exact mem_at0 M _
  have r1 : fRepr (fNote (fLst (fCons (fDef f_is_name (fCons (fV 6) fNil)) (fCons (fDef f_is_worth (fCons (fV 6) fNil)) (fCons (fDef f_is_moment (fCons (fV 6) fNil)) fNil))))) [x0, x1, x2, x3, x4, x5, some d, x7, x8, x9, some (.ref M.length), x11, x12, x13] M1 = some (.str (PyData.list [.bool a, .bool b, .bool c]).shown, M2) := by
    unfold fRepr
    rw [e2]
    simp only [bindO_s]
    rw [toQ_bools (k := 58) t1]
    simp only []
    rw [if_pos ⟨rfl, by simp [PyData.depth, PyData.depthAll], Nat.le_trans (bools_ok a b c) (by decide)⟩]
  have r2 : fRepr (fV 10) [x0, x1, x2, x3, x4, x5, some d, x7, x8, x9, some (.ref M.length), x11, x12, x13] M2 = some (.str (PyData.list [.bool a, .bool b, .bool c]).shown, M2) :=
    fRepr_eq (d := .ref M.length) rfl (toQ_bools (k := 58) t2) rfl (by simp [PyData.depth, PyData.depthAll]) (Nat.le_trans (bools_ok a b c) (by decide))
  refine ⟨some (.ref M.length), [.lst L, .lst L], ?_⟩
  unfold nameBody gSeq gSet
  rw [e1]
  simp only [bindO_s, List.set_cons_succ, List.set_cons_zero]
  unfold gIf fTest
  rw [fOp_def, r1]
  simp only [bindO_s]
  rw [r2]
  simp only [bindO_s, gNe_str, decide_true, Bool.not_true, pairO_s, gSkip_s]
  simp [M2, M1]
end K01

-- K01D
namespace K01
open PySem PySem.Spec PyProof.Rows L2 PV
def tabBody : FS := gIf (fTest (fOp gNe (fRepr (fDef f_are_tables (fCons (fV 6) fNil))) (fRepr (fDef f__law_are_tables (fCons (fV 6) fNil))))) (gRet (fC (.bl false))) gSkip
theorem tab_body {x0 x1 x2 x3 x4 x5 x7 x8 x9 x10 x11 x12 x13 : Option D} {d : D} {M : Mem} (hs : TabsOk M d) :
    tabBody [x0, x1, x2, x3, x4, x5, some d, x7, x8, x9, x10, x11, x12, x13] M = some (.nx [x0, x1, x2, x3, x4, x5, some d, x7, x8, x9, x10, x11, x12, x13], M) := by
  obtain ⟨b, h1, h2⟩ := looks hs
  have q1 : fDef f_are_tables (fCons (fV 6) fNil) [x0, x1, x2, x3, x4, x5, some d, x7, x8, x9, x10, x11, x12, x13] M = some (.bl b, M) := h1
  have q2 : fDef f__law_are_tables (fCons (fV 6) fNil) [x0, x1, x2, x3, x4, x5, some d, x7, x8, x9, x10, x11, x12, x13] M = some (.bl b, M) := h2
  unfold tabBody gIf fTest
  rw [fOp_def, repr_bool q1]
  simp only [bindO_s]
  rw [repr_bool q2]
  simp only [bindO_s, gNe_str, decide_true, Bool.not_true, pairO_s, gSkip_s]
theorem range_get {d : D} {n : Nat} (h : d ∈ rangeD 0 n) : ∃ i : Nat, i < n ∧ d = .int (i : Nat) := by
  unfold rangeD at h
  obtain ⟨i, m, rfl⟩ := List.mem_map.mp h
  exact ⟨i, List.mem_range.mp m, by simp⟩
/-- the odd things, all of them -/
def oddsF : FL := fLc (iRange1 (fC (.int 16))) [13] (hName 13) fYes (fDef f__law_odd (fCons (fV 13) fNil))
theorem odds_eq {x0 x1 x2 x3 x4 x5 x6 x7 x8 x9 x10 x11 x12 x13 : Option D} (M : Mem) : ∃ ys l C, oddsF [x0, x1, x2, x3, x4, x5, x6, x7, x8, x9, x10, x11, x12, x13] M = some (ys, M ++ l) ∧ ys.length = 16 ∧ Has (M ++ l) C ∧ ∀ y ∈ ys, Odd C y := by
  obtain ⟨ys, l, C, e, h1, h2, h3⟩ := compD_grow (h := hName 13) (f := fDef f__law_odd (fCons (fV 13) fNil)) (env := [x0, x1, x2, x3, x4, x5, x6, x7, x8, x9, x10, x11, x12, none]) Odd (fun C C' d s h => h.sub s) (fun _ => True) (fun _ _ _ => trivial) (rangeD 0 16) M trivial fun d m Mi _ => by
    obtain ⟨i, hi, rfl⟩ := range_get m
    obtain ⟨y, l, C, e, h1, h2⟩ := x_odd (i := (i : Nat)) (by omega) Mi
    exact ⟨_, l, C, y, rfl, e, h2, h1⟩
  refine ⟨ys, l, C, ?_, h1, h2, h3⟩
  unfold oddsF fLc
  have ei : iRange1 (fC (.int 16)) [x0, x1, x2, x3, x4, x5, x6, x7, x8, x9, x10, x11, x12, x13] M = some ((rangeD 0 16, yes), M) := rfl
  rw [ei]
  simp only [bindO_s]
  rw [if_pos (by decide)]
  exact e
/-- the bent tables, all of them -/
def bentsF : FL := fLc (iRange1 (fC (.int 9))) [12] (hName 12) fYes (fDef f__law_bent (fCons (fSl (fV 3) (fSo (fOp gAdd (fC (.int 10)) (fOp gMulA (fC (.int 5)) (fV 12)))) fNo) (fCons (fV 4) fNil)))
theorem bents_eq {x0 x1 x2 x5 x6 x7 x8 x9 x10 x11 x12 x13 : Option D} {n : Nat} {ds : List Int} {T0 T1 T2 : D} (hl : ds.length = 60) (g0 : GoodTab T0) (g1 : GoodTab T1) (g2 : GoodTab T2) {M : Mem} (h : Dig M n ds) :
    ∃ ys l C, bentsF [x0, x1, x2, some (.ref n), some (.tup [T0, T1, T2]), x5, x6, x7, x8, x9, x10, x11, x12, x13] M = some (ys, M ++ l) ∧ ys.length = 9 ∧ Has (M ++ l) C ∧ ∀ y ∈ ys, Thing C y := by
  obtain ⟨ys, l, C, e, h1, h2, h3⟩ := compD_grow (h := hName 12) (f := fDef f__law_bent (fCons (fSl (fV 3) (fSo (fOp gAdd (fC (.int 10)) (fOp gMulA (fC (.int 5)) (fV 12)))) fNo) (fCons (fV 4) fNil))) (env := [x0, x1, x2, some (.ref n), some (.tup [T0, T1, T2]), x5, x6, x7, x8, x9, x10, x11, none, x13]) Thing (fun C C' d s h => h.sub s) (fun M => Dig M n ds) (fun M l h => h.ext l) (rangeD 0 9) M h fun d m Mi hM => by
    obtain ⟨i, hi, rfl⟩ := range_get m
    let M1 : Mem := Mi ++ [.lst ((ds.drop (10 + 5 * i)).map .int)]
    have hD : Dig M1 Mi.length (ds.drop (10 + 5 * i)) := ⟨mem_at0 Mi _, fun x m => h.nn x (List.mem_of_mem_drop m)⟩
    obtain ⟨l, C, y, e, h1, h2⟩ := x_bent hD (by rw [List.length_drop]; omega) g0 g1 g2
    refine ⟨_, [.lst ((ds.drop (10 + 5 * i)).map .int)] ++ l, C, y, rfl, ?_, by rw [← List.append_assoc]; exact h1, h2⟩
    have es : fSl (fV 3) (fSo (fOp gAdd (fC (.int 10)) (fOp gMulA (fC (.int 5)) (fV 12)))) fNo [x0, x1, x2, some (.ref n), some (.tup [T0, T1, T2]), x5, x6, x7, x8, x9, x10, x11, some (.int (i : Nat)), x13] Mi = some (.ref Mi.length, M1) := by
      have q0 : fSo (fOp gAdd (fC (.int 10)) (fOp gMulA (fC (.int 5)) (fV 12))) [x0, x1, x2, some (.ref n), some (.tup [T0, T1, T2]), x5, x6, x7, x8, x9, x10, x11, some (.int (i : Nat)), x13] Mi = some (some ((10 + 5 * i : Nat) : Int), Mi) := by
        have v12 : fV 12 [x0, x1, x2, some (.ref n), some (.tup [T0, T1, T2]), x5, x6, x7, x8, x9, x10, x11, some (.int (i : Nat)), x13] Mi = some (.int (i : Nat), Mi) := rfl
        unfold fSo
        rw [fOp_def]
        simp only [fC_s, bindO_s]
        rw [fOp_def]
        simp only [fC_s, bindO_s]
        rw [v12]
        simp only [bindO_s]
        rw [mulA (.inl (by decide))]
        simp only [pairO_s, bindO_s, addI]
        congr 2
      show bindO (some (D.ref n, Mi)) (fun d M1 => bindO (fSo (fOp gAdd (fC (.int 10)) (fOp gMulA (fC (.int 5)) (fV 12))) [x0, x1, x2, some (.ref n), some (.tup [T0, T1, T2]), x5, x6, x7, x8, x9, x10, x11, some (.int (i : Nat)), x13] M1) _) = _
      simp only [bindO_s]
      rw [q0]
      simp only [bindO_s, fNo, hM.at_]
      rw [cut_from, ← List.map_drop]
    unfold fDef
    rw [fCons_def]
    show bindO (bindO (fSl (fV 3) (fSo (fOp gAdd (fC (.int 10)) (fOp gMulA (fC (.int 5)) (fV 12)))) fNo [x0, x1, x2, some (.ref n), some (.tup [T0, T1, T2]), x5, x6, x7, x8, x9, x10, x11, some (.int (i : Nat)), x13] Mi) _) _ = _
    rw [es]
    simp only [bindO_s]
    have ec : fCons (fV 4) fNil [x0, x1, x2, some (.ref n), some (.tup [T0, T1, T2]), x5, x6, x7, x8, x9, x10, x11, some (.int (i : Nat)), x13] M1 = some ([.tup [T0, T1, T2]], M1) := rfl
    show bindO (bindO (fCons (fV 4) fNil [x0, x1, x2, some (.ref n), some (.tup [T0, T1, T2]), x5, x6, x7, x8, x9, x10, x11, some (.int (i : Nat)), x13] M1) _) _ = _
    rw [ec]
    simp only [bindO_s]
    rw [e, ← List.append_assoc]
  refine ⟨ys, l, C, ?_, h1, h2, h3⟩
  unfold bentsF fLc
  have ei : iRange1 (fC (.int 9)) [x0, x1, x2, some (.ref n), some (.tup [T0, T1, T2]), x5, x6, x7, x8, x9, x10, x11, x12, x13] M = some ((rangeD 0 9, yes), M) := rfl
  rw [ei]
  simp only [bindO_s]
  rw [if_pos (by decide)]
  exact e
/-- the many tables -/
def manyF : FE := fTup (fLc (iVal (fC (.str "cdefghi"))) [11] (hName 11) fYes (fTup (fCons (fV 11) (fCons (fTup (fCons (fTup (fCons (fC (.str "a")) (fCons (fC (.str "number")) (fCons (fC .non) fNil)))) fNil)) (fCons (fC (.str "row")) fNil)))))
def many7 : List D := (PV.signs "cdefghi").map fun d => .tup [d, .tup [.tup [.str "a", .str "number", .non]], .str "row"]
theorem many_eq {x0 x1 x2 x3 x4 x5 x6 x7 x8 x9 x10 x11 x12 x13 : Option D} (M : Mem) : manyF [x0, x1, x2, x3, x4, x5, x6, x7, x8, x9, x10, x11, x12, x13] M = some (.tup many7, M) := by
  have e := fLc_all (i := iVal (fC (.str "cdefghi"))) (vs := [11]) (h := hName 11) (f := fTup (fCons (fV 11) (fCons (fTup (fCons (fTup (fCons (fC (.str "a")) (fCons (fC (.str "number")) (fCons (fC .non) fNil)))) fNil)) (fCons (fC (.str "row")) fNil)))) (env := [x0, x1, x2, x3, x4, x5, x6, x7, x8, x9, x10, x11, x12, x13]) (M := M) (xs := PV.signs "cdefghi")
    (fun d => .tup [d, .tup [.tup [.str "a", .str "number", .non]], .str "row"]) rfl (by decide) fun d m => ⟨_, rfl, rfl⟩
  rw [manyF, fTup_def, e]
  rfl
theorem many_len : many7.length = 7 := by decide +kernel
theorem many_tt {C : Cst} : ∀ t ∈ many7, TThing C t := fun t m => by
  unfold many7 at m
  obtain ⟨d, y1, rfl⟩ := List.mem_map.mp m
  have kd : Kd C d := okFlat_kd (List.all_eq_true.mp (show (PV.signs "cdefghi").all okFlat = true by decide +kernel) d y1)
  refine tt3 kd (cth (fun c y => ?_) (by simp)) (okFlat_kd (by decide +kernel))
  obtain rfl : c = _ := by simpa using y
  exact cc3 (okFlat_kd (by decide +kernel)) (okFlat_kd (by decide +kernel)) (okFlat_kd (by decide +kernel))
end K01

-- K01E
namespace K01
open PySem PySem.Spec PyProof.Rows L2 PV
def digF : FE := fDef f__law_numbers (fCons (fV 2) (fCons (fOp gAdd (fC (.int 100)) (fV 1)) (fCons (fNote (fRep (fLst (fCons (fC (.int 420)) fNil)) (fC (.int 60)))) fNil)))
theorem dig_eq {x0 x3 x4 x5 x6 x7 x8 x9 x10 x11 x12 x13 : Option D} {i c : Int} (hi : 0 ≤ i ∧ i ≤ 1000) (M : Mem) :
    ∃ ds : List Int, ds.length = 60 ∧ (∀ x ∈ ds, 0 ≤ x) ∧ digF [x0, some (.int i), some (.int c), x3, x4, x5, x6, x7, x8, x9, x10, x11, x12, x13] M = some (.ref (M.length + 1), M ++ [.lst (List.replicate 60 (.int 420)), .lst (ds.map .int)]) := by
  let M1 : Mem := M ++ [.lst (List.replicate 60 (.int 420))]
  obtain ⟨ds, h1, h2, e⟩ := x_numbers c (100 + i) (by omega) (M := M1) (a := M.length) (mem_at0 M _)
  refine ⟨ds, h1, fun x m => (h2 x m).1, ?_⟩
  have q : fCons (fV 2) (fCons (fOp gAdd (fC (.int 100)) (fV 1)) (fCons (fNote (fRep (fLst (fCons (fC (.int 420)) fNil)) (fC (.int 60)))) fNil)) [x0, some (.int i), some (.int c), x3, x4, x5, x6, x7, x8, x9, x10, x11, x12, x13] M = some ([.int c, .int (100 + i), .ref M.length], M1) := rfl
  unfold digF fDef
  rw [q]
  simp only [bindO_s]
  rw [e]
  simp [M1]
def eight : List Str := ["a", timesS "ab" 4, timesS "ab" 4 ++ "c", "A", "a1", "a b", "", "a\n"]
def eightF : FL := fLst (fCons (fC (.str "a")) (fCons (fOp gMulA (fC (.str "ab")) (fC (.int 4))) (fCons (fOp gAdd (fOp gMulA (fC (.str "ab")) (fC (.int 4))) (fC (.str "c"))) (fCons (fC (.str "A")) (fCons (fC (.str "a1")) (fCons (fC (.str "a b")) (fCons (fC (.str "")) (fCons (fC (.str "a\n")) fNil))))))))
theorem eight_eq (env : Vars) (M : Mem) : eightF env M = some (strD eight, M) := by
  have e1 : fOp gMulA (fC (.str "ab")) (fC (.int 4)) env = fun M => some (.str (timesS "ab" 4), M) := by
    funext M
    rw [fOp_def]
    simp only [fC_s, bindO_s]
    rw [repS (by decide) (by decide) (by decide) (by decide)]
    rfl
  have e2 : fOp gAdd (fOp gMulA (fC (.str "ab")) (fC (.int 4))) (fC (.str "c")) env = fun M => some (.str (timesS "ab" 4 ++ "c"), M) := by
    funext M
    rw [fOp_def, e1]
    simp only [fC_s, bindO_s]
    rw [addS (by decide +kernel)]
    rfl
  rw [eightF, fLst_def, fCons_def]
  simp only [fC_s, bindO_s]
  rw [fCons_def, e1]
  simp only [bindO_s]
  rw [fCons_def, e2]
  rfl
def namesF : FL := fCat eightF (fItemsL (fDef f__law_persons (fCons (fSl (fV 3) (fSo (fC (.int 6))) fNo) fNil)))
theorem eight_small : ∀ z ∈ eight, z.length ≤ 100000 := by decide +kernel
theorem names_eq {x0 x1 x2 x4 x5 x6 x7 x8 x9 x10 x11 x12 x13 : Option D} {n : Nat} {ds : List Int} (hl : ds.length = 60) {M : Mem} (h : Dig M n ds) :
    ∃ (zs : List Str) (l : Mem), namesF [x0, x1, x2, some (.ref n), x4, x5, x6, x7, x8, x9, x10, x11, x12, x13] M = some (strD zs, M ++ l) ∧ zs.length = 11 ∧ ∀ z ∈ zs, z.length ≤ 100000 := by
  let M1 : Mem := M ++ [.lst ((ds.drop 6).map .int)]
  obtain ⟨l, ps, m, e, hm, p1, p2⟩ := x_persons (M := M1) (n := M.length) (ds := ds.drop 6) (mem_at0 M _) (by rw [List.length_drop]; omega) fun x m => h.nn x (List.mem_of_mem_drop m)
  refine ⟨eight ++ ps, [.lst ((ds.drop 6).map .int)] ++ l, ?_, by rw [List.length_append, p1]; rfl, fun z mz => ?_⟩
  · have es : fSl (fV 3) (fSo (fC (.int 6))) fNo [x0, x1, x2, some (.ref n), x4, x5, x6, x7, x8, x9, x10, x11, x12, x13] M = some (.ref M.length, M1) := by
      show bindO (some (D.ref n, M)) (fun d M1 => bindO (some (some (6 : Int), M1)) fun l M2 => bindO (some (none, M2)) _) = _
      simp only [bindO_s, h.at_]
      rw [show (6 : Int) = ((6 : Nat) : Int) from rfl, cut_from, ← List.map_drop]
    have ep : fItemsL (fDef f__law_persons (fCons (fSl (fV 3) (fSo (fC (.int 6))) fNo) fNil)) [x0, x1, x2, some (.ref n), x4, x5, x6, x7, x8, x9, x10, x11, x12, x13] M = some (ps.map .str, M1 ++ l) := by
      unfold fItemsL fDef
      rw [fCons_def, es]
      simp only [bindO_s, fNil_s]
      rw [e]
      simp only [bindO_s, hm]
    unfold namesF fCat
    rw [eight_eq]
    simp only [bindO_s]
    rw [ep]
    simp only [bindO_s]
    rw [if_pos (by rw [List.length_map, p1]; decide +kernel)]
    rw [← List.append_assoc]
    show some (eight.map D.str ++ ps.map D.str, M1 ++ l) = some ((eight ++ ps).map D.str, M1 ++ l)
    rw [List.map_append]
  · rcases List.mem_append.mp mz with mz | mz
    · exact eight_small z mz
    · exact Nat.le_trans (p2 z mz) (by decide)
def fiveF : FL := fLst (fCons (fC (.int 9)) (fCons (fC (.int 10)) (fCons (fC (.int 999)) (fCons (fC (.int 1000)) (fCons (fNeg (fC (.int 1))) fNil)))))
theorem five_eq (env : Vars) (M : Mem) : fiveF env M = some ([.int 9, .int 10, .int 999, .int 1000, .int (-1)], M) := rfl
/-- the first loop -/
def loop1 : FS := gFor (iNew (fCat (fCatR (fV 5) oddsF) fiveF)) (hName 6) nameBody
theorem loop1_eq {x0 x1 x2 x3 x4 x6 x7 x8 x9 x10 x11 x12 x13 : Option D} {n : Nat} {zs : List Str} {M : Mem} (hn : M[n]? = some (.lst (strD zs))) (hl : zs.length = 11) (hz : ∀ z ∈ zs, z.length ≤ 100000) :
    ∃ x6' x10' l, loop1 [x0, x1, x2, x3, x4, some (.ref n), x6, x7, x8, x9, x10, x11, x12, x13] M = some (.nx [x0, x1, x2, x3, x4, some (.ref n), x6', x7, x8, x9, x10', x11, x12, x13], M ++ l) := by
  obtain ⟨ys, l, C, e, h1, h2, h3⟩ := odds_eq (x0 := x0) (x1 := x1) (x2 := x2) (x3 := x3) (x4 := x4) (x5 := some (.ref n)) (x6 := x6) (x7 := x7) (x8 := x8) (x9 := x9) (x10 := x10) (x11 := x11) (x12 := x12) (x13 := x13) M
  have hn' : (M ++ l)[n]? = some (.lst (strD zs)) := by
    rw [List.getElem?_append_left (List.getElem?_eq_some_iff.mp hn).1]
    exact hn
  let xs : List D := strD zs ++ ys ++ [.int 9, .int 10, .int 999, .int 1000, .int (-1)]
  have sm : ∀ d ∈ xs, Small d := by
    intro d m
    simp only [xs, List.mem_append] at m
    rcases m with (m | m) | m
    · obtain ⟨z, mz, rfl⟩ := List.mem_map.mp m
      exact hz z mz
    · exact (h3 d m).kd.1
    · simp only [List.mem_cons, List.not_mem_nil, or_false] at m
      rcases m with rfl | rfl | rfl | rfl | rfl <;> trivial
  let P : Nat → Vars → Mem → Prop := fun _ env Mm => ∃ x6' x10' l', env = [x0, x1, x2, x3, x4, some (.ref n), x6', x7, x8, x9, x10', x11, x12, x13] ∧ Mm = M ++ l'
  obtain ⟨env', M', e2, x6', x10', l', rfl, rfl⟩ := forD_inv (h := hName 6) (f := nameBody) P xs 0 _ (M ++ l) ⟨x6, x10, l, rfl, rfl⟩ fun i d env Mm hx hP => by
    obtain ⟨x6', x10', l', rfl, rfl⟩ := hP
    obtain ⟨x, l2, e3⟩ := name_body (x0 := x0) (x1 := x1) (x2 := x2) (x3 := x3) (x4 := x4) (x5 := some (.ref n)) (x7 := x7) (x8 := x8) (x9 := x9) (x10 := x10') (x11 := x11) (x12 := x12) (x13 := x13) (sm d (List.mem_of_getElem? hx)) (M ++ l')
    exact ⟨_, _, _, rfl, .inl e3, some d, x, l' ++ l2, rfl, by rw [List.append_assoc]⟩
  refine ⟨x6', x10', l', ?_⟩
  have el : (strD zs).length = 11 := by unfold strD; rw [List.length_map, hl]
  have ei : iNew (fCat (fCatR (fV 5) oddsF) fiveF) [x0, x1, x2, x3, x4, some (.ref n), x6, x7, x8, x9, x10, x11, x12, x13] M = some ((xs, yes), M ++ l) := by
    unfold iNew fCat fCatR
    have v5 : fV 5 [x0, x1, x2, x3, x4, some (.ref n), x6, x7, x8, x9, x10, x11, x12, x13] M = some (.ref n, M) := rfl
    rw [v5]
    simp only [bindO_s]
    rw [e]
    simp only [bindO_s, hn']
    rw [if_pos (by rw [el, h1]; decide)]
    simp only [bindO_s, five_eq]
    rw [if_pos (by rw [List.length_append, el, h1]; decide)]
    rfl
  unfold loop1 gFor
  rw [ei]
  simp only [bindO_s]
  rw [e2]
end K01

-- K01F
namespace K01
open PySem PySem.Spec PyProof.Rows L2 PV
def elevenF : FL := fLst (fCons (fV 4) (fCons (fNote (fListOf (fV 4))) (fCons (fTup fNil) (fCons (fSl (fV 7) fNo (fSo (fC (.int 6)))) (fCons (fV 7) (fCons (fSl (fV 4) fNo (fSo (fC (.int 1)))) (fCons (fOp gAdd (fV 4) (fSl (fV 4) fNo (fSo (fC (.int 1))))) (fCons (fC .non) (fCons (fC .emp) (fCons (fC (.str "row")) (fCons (fC (.int 5)) fNil)))))))))))
def eleven (T0 T1 T2 : D) (m : Nat) : List D := [.tup [T0, T1, T2], .ref m, .tup [], .tup (many7.take 6), .tup many7, .tup [T0], .tup [T0, T1, T2, T0], .non, .emp, .str "row", .int 5]
theorem eleven_eq {x0 x1 x2 x3 x5 x6 x8 x9 x10 x11 x12 x13 : Option D} {T0 T1 T2 : D} (M : Mem) :
    fNote elevenF [x0, x1, x2, x3, some (.tup [T0, T1, T2]), x5, x6, some (.tup many7), x8, x9, x10, x11, x12, x13] M = some (.ref (M.length + 1), M ++ [.lst [T0, T1, T2], .lst (eleven T0 T1 T2 M.length)]) := by
  have e4 : fSl (fV 7) fNo (fSo (fC (.int 6))) [x0, x1, x2, x3, some (.tup [T0, T1, T2]), x5, x6, some (.tup many7), x8, x9, x10, x11, x12, x13] = fun M => some (.tup (many7.take 6), M) := by
    funext M
    show some (D.tup (PV.cutD many7 none (some (6 : Int))), M) = _
    rw [show (6 : Int) = ((6 : Nat) : Int) from rfl, cut_to]
  have e5 : fSl (fV 4) fNo (fSo (fC (.int 1))) [x0, x1, x2, x3, some (.tup [T0, T1, T2]), x5, x6, some (.tup many7), x8, x9, x10, x11, x12, x13] = fun M => some (.tup [T0], M) := by
    funext M
    show some (D.tup (PV.cutD [T0, T1, T2] none (some (1 : Int))), M) = _
    rw [show (1 : Int) = ((1 : Nat) : Int) from rfl, cut_to]
    rfl
  have e6 : fOp gAdd (fV 4) (fSl (fV 4) fNo (fSo (fC (.int 1)))) [x0, x1, x2, x3, some (.tup [T0, T1, T2]), x5, x6, some (.tup many7), x8, x9, x10, x11, x12, x13] = fun M => some (.tup [T0, T1, T2, T0], M) := by
    funext M
    have v4 : fV 4 [x0, x1, x2, x3, some (.tup [T0, T1, T2]), x5, x6, some (.tup many7), x8, x9, x10, x11, x12, x13] M = some (.tup [T0, T1, T2], M) := rfl
    rw [fOp_def, v4]
    simp only [bindO_s]
    rw [e5]
    rfl
  have v4 : fV 4 [x0, x1, x2, x3, some (.tup [T0, T1, T2]), x5, x6, some (.tup many7), x8, x9, x10, x11, x12, x13] = fun M => some (.tup [T0, T1, T2], M) := rfl
  have v7 : fV 7 [x0, x1, x2, x3, some (.tup [T0, T1, T2]), x5, x6, some (.tup many7), x8, x9, x10, x11, x12, x13] = fun M => some (.tup many7, M) := rfl
  have eL : fNote (fListOf (fV 4)) [x0, x1, x2, x3, some (.tup [T0, T1, T2]), x5, x6, some (.tup many7), x8, x9, x10, x11, x12, x13] = fun M => some (.ref M.length, M ++ [.lst [T0, T1, T2]]) := rfl
  have eT : fTup fNil [x0, x1, x2, x3, some (.tup [T0, T1, T2]), x5, x6, some (.tup many7), x8, x9, x10, x11, x12, x13] = fun M => some (.tup [], M) := rfl
  have e : elevenF [x0, x1, x2, x3, some (.tup [T0, T1, T2]), x5, x6, some (.tup many7), x8, x9, x10, x11, x12, x13] M = some (eleven T0 T1 T2 M.length, M ++ [.lst [T0, T1, T2]]) := by
    rw [elevenF, fLst_def, fCons_def, v4]
    simp only [bindO_s]
    rw [fCons_def, eL]
    simp only [bindO_s]
    rw [fCons_def, eT]
    simp only [bindO_s]
    rw [fCons_def, e4]
    simp only [bindO_s]
    rw [fCons_def, v7]
    simp only [bindO_s]
    rw [fCons_def, e5]
    simp only [bindO_s]
    rw [fCons_def, e6]
    rfl
  unfold fNote
  rw [e]
  simp
theorem thF {C : Cst} {d : D} (h : okFlat d = true) : Thing C d := by
  have z := okFlat_kd (C := C) h
  refine ⟨fun M _ => ?_, shL_le z.sh (by decide) (by decide)⟩
  cases d with
  | tup _ => cases h
  | _ => trivial
theorem eleven_things {T0 T1 T2 : D} (g0 : GoodTab T0) (g1 : GoodTab T1) (g2 : GoodTab T2) {m : Nat} : ∀ d ∈ eleven T0 T1 T2 m, Thing [(m, [T0, T1, T2])] d := by
  have t3 : ∀ t ∈ [T0, T1, T2], TThing [(m, [T0, T1, T2])] t := mem3 (P := TThing [(m, [T0, T1, T2])]) g0.tt g1.tt g2.tt
  intro d z
  simp only [eleven, List.mem_cons, List.not_mem_nil, or_false] at z
  rcases z with rfl | rfl | rfl | rfl | rfl | rfl | rfl | rfl | rfl | rfl | rfl
  · exact thT t3 (by simp)
  · exact thR List.mem_cons_self t3 (by simp)
  · exact thO .nilT
  · exact thT (fun t m => many_tt t (List.mem_of_mem_take m)) (by rw [List.length_take, many_len]; decide)
  · exact thT many_tt (by rw [many_len]; decide)
  · refine thT (fun t m => ?_) (by simp)
    obtain rfl : t = T0 := by simpa using m
    exact g0.tt
  · refine thT (fun t m => ?_) (by simp)
    simp only [List.mem_cons, List.not_mem_nil, or_false] at m
    rcases m with rfl | rfl | rfl | rfl
    · exact g0.tt
    · exact g1.tt
    · exact g2.tt
    · exact g0.tt
  · exact thF (by decide +kernel)
  · exact thO .emp
  · exact thF (by decide +kernel)
  · exact thF (by decide +kernel)
/-- the second loop, and what is kept -/
def loop2 : FS := gFor (iVal (fV 8)) (hName 6) tabBody
def lawBody : FS := gSeq (gSet digF 3) (gSeq (gSet (fDef f__law_tables (fCons (fV 3) fNil)) 4) (gSeq (gSet (fNote namesF) 5) (gSeq loop1 (gSeq (gSet manyF 7) (gSeq (gSet (fNote elevenF) 8) (gSeq (gSet (fNote (fCatR (fV 8) bentsF)) 8)
  (gSeq (gSet (fRepr (fV 8)) 9) (gSeq loop2 (gIf (fTest (fOp gNe (fRepr (fV 8)) (fV 9))) (gRet (fC (.bl false))) gSkip)))))))))
theorem law_shape : g_law = gSeq (gFor (iEnumF (fCatR (fSl (fV 0) fNo (fSo (fC (.int 10)))) (fRep (fLst (fCons (fC (.int 7)) fNil)) (fCall gInt (fCons (fEqR (fV 0) (fLst fNil)) fNil))))) (hTup 2 (hCons (hName 1) (hCons (hName 2) hNil))) lawBody) (gRet (fC (.bl true))) := rfl
theorem size_ok : 20 * (300000 + 2) + 3 ≤ sizeLine := by decide
theorem law_body {x0 x3 x4 x5 x6 x7 x8 x9 x10 x11 x12 x13 : Option D} {i c : Int} (hi : 0 ≤ i ∧ i ≤ 1000) (M : Mem) :
    ∃ y3 y4 y5 y6 y7 y8 y9 y10 y11 y12 y13 M', lawBody [x0, some (.int i), some (.int c), x3, x4, x5, x6, x7, x8, x9, x10, x11, x12, x13] M = some (.nx [x0, some (.int i), some (.int c), y3, y4, y5, y6, y7, y8, y9, y10, y11, y12, y13], M') := by
  obtain ⟨ds, hl, hd, e1⟩ := dig_eq (x0 := x0) (x3 := x3) (x4 := x4) (x5 := x5) (x6 := x6) (x7 := x7) (x8 := x8) (x9 := x9) (x10 := x10) (x11 := x11) (x12 := x12) (x13 := x13) (c := c) hi M
  let n : Nat := M.length + 1
  let M1 : Mem := M ++ [.lst (List.replicate 60 (.int 420)), .lst (ds.map .int)]
  have D1 : Dig M1 n ds := ⟨mem_at M _ 1, hd⟩
  obtain ⟨l2, T0, T1, T2, e2, g0, g1, g2⟩ := x_tables D1 (by omega)
  let M2 : Mem := M1 ++ l2
  have D2 : Dig M2 n ds := D1.ext l2
  obtain ⟨zs, l3, e3, z1, z2⟩ := names_eq (x0 := x0) (x1 := some (.int i)) (x2 := some (.int c)) (x4 := some (.tup [T0, T1, T2])) (x5 := x5) (x6 := x6) (x7 := x7) (x8 := x8) (x9 := x9) (x10 := x10) (x11 := x11) (x12 := x12) (x13 := x13) hl D2
  let M3 : Mem := M2 ++ l3 ++ [.lst (strD zs)]
  obtain ⟨x6', x10', l4, e4⟩ := loop1_eq (x0 := x0) (x1 := some (.int i)) (x2 := some (.int c)) (x3 := some (.ref n)) (x4 := some (.tup [T0, T1, T2])) (x6 := x6) (x7 := x7) (x8 := x8) (x9 := x9) (x10 := x10) (x11 := x11) (x12 := x12) (x13 := x13) (n := (M2 ++ l3).length) (M := M3) (mem_at0 _ _) z1 z2
  let M4 : Mem := M3 ++ l4
  have D4 : Dig M4 n ds := ((D2.ext l3).ext _).ext l4
  have e5 := many_eq (x0 := x0) (x1 := some (.int i)) (x2 := some (.int c)) (x3 := some (.ref n)) (x4 := some (.tup [T0, T1, T2])) (x5 := some (.ref (M2 ++ l3).length)) (x6 := x6') (x7 := x7) (x8 := x8) (x9 := x9) (x10 := x10') (x11 := x11) (x12 := x12) (x13 := x13) M4
  have e6 := eleven_eq (x0 := x0) (x1 := some (.int i)) (x2 := some (.int c)) (x3 := some (.ref n)) (x5 := some (.ref (M2 ++ l3).length)) (x6 := x6') (x8 := x8) (x9 := x9) (x10 := x10') (x11 := x11) (x12 := x12) (x13 := x13) (T0 := T0) (T1 := T1) (T2 := T2) M4
  let M5 : Mem := M4 ++ [.lst [T0, T1, T2], .lst (eleven T0 T1 T2 M4.length)]
  have D5 : Dig M5 n ds := D4.ext _
  obtain ⟨ys, l6, C, e7, y1, y2, y3⟩ := bents_eq (x0 := x0) (x1 := some (.int i)) (x2 := some (.int c)) (x5 := some (.ref (M2 ++ l3).length)) (x6 := x6') (x7 := some (.tup many7)) (x8 := some (.ref (M4.length + 1))) (x9 := x9) (x10 := x10') (x11 := x11) (x12 := x12) (x13 := x13) hl g0 g1 g2 D5
  let M6 : Mem := M5 ++ l6
  let Th : List D := eleven T0 T1 T2 M4.length ++ ys
  have hel : M6[M4.length + 1]? = some (.lst (eleven T0 T1 T2 M4.length)) := by
    have z : M5[M4.length + 1]? = some (.lst (eleven T0 T1 T2 M4.length)) := mem_at M4 _ 1
    show (M5 ++ l6)[M4.length + 1]? = _
    rw [List.getElem?_append_left (List.getElem?_eq_some_iff.mp z).1]
    exact z
  let M7 : Mem := M6 ++ [.lst Th]
  let C7 : Cst := (M6.length, Th) :: ((M4.length, [T0, T1, T2]) :: C)
  have has7 : Has M7 C7 := by
    refine .cons (mem_at0 M6 _) (.cons ?_ (y2.ext _))
    have z : M5[M4.length]? = some (.lst [T0, T1, T2]) := mem_at0 M4 _
    show (M5 ++ l6 ++ [Ob.lst Th])[M4.length]? = _
    rw [List.append_assoc, List.getElem?_append_left (List.getElem?_eq_some_iff.mp z).1]
    exact z
  have things : ∀ d ∈ Th, Thing C7 d := by
    intro d m
    rcases List.mem_append.mp m with m | m
    · refine (eleven_things g0 g1 g2 d m).sub fun p z => ?_
      obtain rfl : p = _ := by simpa using z
      exact List.mem_cons_of_mem _ List.mem_cons_self
    · exact (y3 d m).sub fun p z => List.mem_cons_of_mem _ (List.mem_cons_of_mem _ z)
  have len20 : Th.length = 20 := by
    show (eleven T0 T1 T2 M4.length ++ ys).length = 20
    rw [List.length_append, y1]
    rfl
  obtain ⟨q, hq⟩ := ShL.ref (C := C7) (n := M6.length) (ds := Th) List.mem_cons_self fun d m => (things d m).sh
  rw [len20] at hq
  have hrep : ∀ env : Vars, fV 8 env M7 = some (.ref M6.length, M7) → fRepr (fV 8) env M7 = some (.str q.shown, M7) := fun env hv =>
    fRepr_eq hv (hq.to M7 has7 60 (by decide)) hq.sh (Nat.le_trans hq.dp (by decide)) (Nat.le_trans hq.ln size_ok)
  -- the second loop
  let P : Nat → Vars → Mem → Prop := fun _ env Mm => ∃ x6'', env = [x0, some (.int i), some (.int c), some (.ref n), some (.tup [T0, T1, T2]), some (.ref (M2 ++ l3).length), x6'', some (.tup many7), some (.ref M6.length), some (.str q.shown), x10', x11, x12, x13] ∧ Mm = M7
  obtain ⟨env', M', e9, x6'', rfl, rfl⟩ := forD_invA (h := hName 6) (f := tabBody) (al := aliveL M6.length Th) P Th 0 _ M7 ⟨x6', rfl, rfl⟩ (fun j env Mm hP => by
    obtain ⟨_, _, rfl⟩ := hP
    unfold aliveL
    rw [show M7[M6.length]? = some (.lst Th) from mem_at0 M6 _]
    exact D.beqL_self Th) fun j d env Mm hx hP => by
    obtain ⟨x, rfl, rfl⟩ := hP
    exact ⟨_, _, _, rfl, tab_body ((things d (List.mem_of_getElem? hx)).ok M7 has7), some d, rfl, rfl⟩
  refine ⟨some (.ref n), some (.tup [T0, T1, T2]), some (.ref (M2 ++ l3).length), x6'', some (.tup many7), some (.ref M6.length), some (.str q.shown), x10', x11, x12, x13, M7, ?_⟩
  have e3n : fNote namesF [x0, some (.int i), some (.int c), some (.ref n), some (.tup [T0, T1, T2]), x5, x6, x7, x8, x9, x10, x11, x12, x13] M2 = some (.ref (M2 ++ l3).length, M3) := by
    unfold fNote
    rw [e3]
    rfl
  have e2n : fDef f__law_tables (fCons (fV 3) fNil) [x0, some (.int i), some (.int c), some (.ref n), x4, x5, x6, x7, x8, x9, x10, x11, x12, x13] M1 = some (.tup [T0, T1, T2], M2) := e2
  have e7n : fNote (fCatR (fV 8) bentsF) [x0, some (.int i), some (.int c), some (.ref n), some (.tup [T0, T1, T2]), some (.ref (M2 ++ l3).length), x6', some (.tup many7), some (.ref (M4.length + 1)), x9, x10', x11, x12, x13] M5 = some (.ref M6.length, M7) := by
    unfold fNote fCatR
    have v8 : fV 8 [x0, some (.int i), some (.int c), some (.ref n), some (.tup [T0, T1, T2]), some (.ref (M2 ++ l3).length), x6', some (.tup many7), some (.ref (M4.length + 1)), x9, x10', x11, x12, x13] M5 = some (.ref (M4.length + 1), M5) := rfl
    rw [v8]
    simp only [bindO_s]
    rw [e7]
    simp only [bindO_s]
    have hel' : (M5 ++ l6)[M4.length + 1]? = some (.lst (eleven T0 T1 T2 M4.length)) := hel
    rw [hel']
    simp only []
    rw [if_pos (by rw [y1]; exact (show 11 + 9 ≤ 100000 by decide))]
    rfl
  have e9n : loop2 [x0, some (.int i), some (.int c), some (.ref n), some (.tup [T0, T1, T2]), some (.ref (M2 ++ l3).length), x6', some (.tup many7), some (.ref M6.length), some (.str q.shown), x10', x11, x12, x13] M7 = some (.nx [x0, some (.int i), some (.int c), some (.ref n), some (.tup [T0, T1, T2]), some (.ref (M2 ++ l3).length), x6'', some (.tup many7), some (.ref M6.length), some (.str q.shown), x10', x11, x12, x13], M7) := by
    unfold loop2 gFor iVal
    have v8 : fV 8 [x0, some (.int i), some (.int c), some (.ref n), some (.tup [T0, T1, T2]), some (.ref (M2 ++ l3).length), x6', some (.tup many7), some (.ref M6.length), some (.str q.shown), x10', x11, x12, x13] M7 = some (.ref M6.length, M7) := rfl
    rw [v8]
    simp only [bindO_s]
    rw [show M7[M6.length]? = some (.lst Th) from mem_at0 M6 _]
    simp only [bindO_s]
    exact e9
  unfold lawBody gSeq gSet
  rw [e1]
  simp only [bindO_s, List.set_cons_succ, List.set_cons_zero]
  rw [e2n]
  simp only [bindO_s, List.set_cons_succ, List.set_cons_zero]
  rw [e3n]
  simp only [bindO_s, List.set_cons_succ, List.set_cons_zero]
  rw [e4]
  simp only [bindO_s, List.set_cons_succ, List.set_cons_zero]
  rw [e5]
  simp only [bindO_s, List.set_cons_succ, List.set_cons_zero]
  rw [e6]
  simp only [bindO_s, List.set_cons_succ, List.set_cons_zero]
  rw [e7n]
  simp only [bindO_s, List.set_cons_succ, List.set_cons_zero]
  rw [hrep _ rfl]
  simp only [bindO_s, List.set_cons_succ, List.set_cons_zero]
  rw [e9n]
  simp only [bindO_s]
  unfold gIf fTest
  rw [fOp_def, hrep _ rfl]
  have v9 : fV 9 [x0, some (.int i), some (.int c), some (.ref n), some (.tup [T0, T1, T2]), some (.ref (M2 ++ l3).length), x6'', some (.tup many7), some (.ref M6.length), some (.str q.shown), x10', x11, x12, x13] M7 = some (.str q.shown, M7) := rfl
  simp only [bindO_s]
  rw [v9]
  simp only [bindO_s, gNe_str, decide_true, Bool.not_true, pairO_s, gSkip_s]
end K01

-- K01T
namespace K01
open PySem PySem.Spec PyProof.Rows L2 PV
theorem rep_mem {k : Int} : ∀ d ∈ (List.replicate k.toNat [D.int 7]).flatten, ∃ i, d = .int i := fun d m => by
  obtain ⟨l, hl, hd⟩ := List.mem_flatten.mp m
  obtain rfl := (List.mem_replicate.mp hl).2
  exact ⟨7, by simpa using hd⟩
theorem truth : ∀ ns : List Int, ns.length ≤ 63 → ∃ M, f_law [.cl (ns.map D.int)] [] = some (.bl true, M) := by
  intro ns hns
  let xs : List D := ns.map D.int
  let k : Int := if xs.isEmpty then 1 else 0
  let ys : List D := xs.take 10 ++ (List.replicate k.toNat [D.int 7]).flatten
  have hk : k ≤ 1 ∧ 0 ≤ k := by
    show (if xs.isEmpty = true then (1 : Int) else 0) ≤ 1 ∧ 0 ≤ (if xs.isEmpty = true then (1 : Int) else 0)
    split <;> decide
  have hrl : ((List.replicate k.toNat [D.int 7]).flatten).length ≤ 1 := by
    rw [List.length_flatten]
    simp
    omega
  have hyl : ys.length ≤ 11 := by
    show (xs.take 10 ++ _).length ≤ 11
    rw [List.length_append, List.length_take]
    omega
  have hyi : ∀ d ∈ ys, ∃ i, d = .int i := fun d m => by
    rcases List.mem_append.mp m with m | m
    · obtain ⟨i, _, rfl⟩ := List.mem_map.mp (List.mem_of_mem_take m)
      exact ⟨i, rfl⟩
    · exact rep_mem d m
  let e0 : Vars := [some (.cl xs), none, none, none, none, none, none, none, none, none, none, none, none, none]
  let M0 : Mem := [.lst (xs.take 10)]
  have hi : iEnumF (fCatR (fSl (fV 0) fNo (fSo (fC (.int 10)))) (fRep (fLst (fCons (fC (.int 7)) fNil)) (fCall gInt (fCons (fEqR (fV 0) (fLst fNil)) fNil)))) e0 [] = some ((enumD 0 ys, yes), M0) := by
    have q1 : fSl (fV 0) fNo (fSo (fC (.int 10))) e0 [] = some (.ref 0, M0) := by
      show some (D.ref 0, [] ++ [Ob.lst (PV.cutD xs none (some (10 : Int)))]) = _
      rw [show (10 : Int) = ((10 : Nat) : Int) from rfl, cut_to]
      rfl
    have q2 : fRep (fLst (fCons (fC (.int 7)) fNil)) (fCall gInt (fCons (fEqR (fV 0) (fLst fNil)) fNil)) e0 M0 = some ((List.replicate k.toNat [D.int 7]).flatten, M0) := by
      have q3 : fCall gInt (fCons (fEqR (fV 0) (fLst fNil)) fNil) e0 M0 = some (.int k, M0) := rfl
      have q4 : fLst (fCons (fC (.int 7)) fNil) e0 M0 = some ([.int 7], M0) := rfl
      unfold fRep
      rw [q4]
      simp only [bindO_s]
      rw [q3]
      simp only [bindO_s]
      rw [if_pos ⟨by omega, by omega, by rw [List.length_singleton]; omega⟩]
    unfold iEnumF fCatR
    rw [q1]
    simp only [bindO_s]
    rw [q2]
    simp only [bindO_s]
    rw [show M0[0]? = some (.lst (xs.take 10)) from rfl]
    simp only []
    rw [if_pos (by rw [List.length_take]; omega)]
    rfl
  let P : Nat → Vars → Mem → Prop := fun _ env _ => ∃ x1 x2 x3 x4 x5 x6 x7 x8 x9 x10 x11 x12 x13, env = [some (.cl xs), x1, x2, x3, x4, x5, x6, x7, x8, x9, x10, x11, x12, x13]
  obtain ⟨env', M', e, _⟩ := forD_inv (h := hTup 2 (hCons (hName 1) (hCons (hName 2) hNil))) (f := lawBody) P (enumD 0 ys) 0 e0 M0 ⟨_, _, _, _, _, _, _, _, _, _, _, _, _, rfl⟩ fun j d env Mm hx hP => by
    obtain ⟨x1, x2, x3, x4, x5, x6, x7, x8, x9, x10, x11, x12, x13, rfl⟩ := hP
    have hj : j < ys.length := by
      have := (List.getElem?_eq_some_iff.mp hx).1
      rw [enumD_length] at this
      exact this
    rw [enumD_get, List.getElem?_eq_getElem hj] at hx
    obtain ⟨c, hc⟩ := hyi _ (List.getElem_mem hj)
    rw [hc] at hx
    obtain rfl : d = .tup [.int ((0 + j : Nat) : Int), .int c] := (Option.some.inj hx).symm
    obtain ⟨y3, y4, y5, y6, y7, y8, y9, y10, y11, y12, y13, M2, e⟩ := law_body (x0 := some (.cl xs)) (x3 := x3) (x4 := x4) (x5 := x5) (x6 := x6) (x7 := x7) (x8 := x8) (x9 := x9) (x10 := x10) (x11 := x11) (x12 := x12) (x13 := x13) (i := ((0 + j : Nat) : Int)) (c := c) (by omega) Mm
    exact ⟨_, _, _, rfl, .inl e, _, _, _, _, _, _, _, _, _, _, _, _, _, rfl⟩
  have hg : g_law e0 [] = some (.rt (.bl true), M') := by
    rw [law_shape]
    unfold gSeq gFor
    rw [hi]
    simp only [bindO_s]
    rw [e]
    rfl
  unfold f_law defD
  rw [if_pos (show [D.cl (ns.map D.int)].length = 1 from rfl)]
  show ∃ M, (bindO (g_law e0 []) fun o M1 => match o with
        | Out.rt d => some (trim ([] : Mem).length d M1)
        | Out.nx env => some (trim ([] : Mem).length D.non M1)
        | x => none) = some (D.bl true, M)
  rw [hg]
  simp only [bindO_s]
  rcases trim_cases 0 (.bl true) M' with z | ⟨z, _⟩
  · exact ⟨M', congrArg some z⟩
  · exact ⟨M'.take 0, congrArg some z⟩
end K01

-- K01Z
namespace K01
open PySem PySem.W PySem.Spec PyProof.Rows L2 PV
set_option maxHeartbeats 0 in
theorem holds_asnevertold_k01_names_and_tables : PySem.Challenge.rw_asnevertold_k01_names_and_tables.Holds := by
  w_on; o_law; k_head; (case hw => w_witness2)
  k_fill
  refine law_walk (l := PySem.Challenge.rw_asnevertold_k01_names_and_tables) (n := 63) (k := 8) (x := "_law_script") (f := f_law) rfl (by decide) rfl ⟨rfl, by decide, by decide⟩ (fun w h Y => PySem.W.kIn_of Y) ?F truth
  case F =>
    intro w mg fa h KX G hmg
    refine' all_mk KX G hmg ?a0 ?l0 ?c0 ?k0 ?a1 ?l1 ?c1 ?k1 ?a2 ?l2 ?c2 ?k2 ?a3 ?l3 ?c3 ?k3 ?a4 ?l4 ?c4 ?k4 ?a5 ?l5 ?c5 ?k5 ?a6 ?l6 ?c6 ?k6 ?a7 ?l7 ?c7 ?k7 ?a8 ?l8 ?c8 ?k8 ?a9 ?l9 ?c9 ?k9 ?a10 ?l10 ?c10 ?k10 ?a11 ?l11 ?c11 ?k11 ?a12 ?l12 ?c12 ?k12 ?a13 ?l13 ?c13 ?k13 ?a14 ?l14 ?c14 ?k14 ?a15 ?l15 ?c15 ?k15 ?a16 ?l16 ?c16 ?k16 ?a17 ?l17 ?c17 ?k17 ?a18 ?l18 ?c18 ?k18 ?a19 ?l19 ?c19 ?k19 ?a20 ?l20 ?c20 ?k20 ?a21 ?l21 ?c21 ?k21 ?z_all ?z_bool ?z_enumerate ?z_int ?z_isinstance ?z_len ?z_list ?z_max ?z_range ?z_repr ?z_set ?z_str ?z_tuple ?y_KINDS ?x_KINDS ?y_LAST_MOMENT ?y_LAST_WORTH ?y_LETTERS ?y_LONGEST_NAME ?y_MOST_COLUMNS ?y_MOST_TABLES ?y_RULES ?x_RULES
    (case a0 => k_is)
    (case l0 => k_is)
    (case c0 => k_is)
    (case k0 => k_is)
    (case a1 => k_is)
    (case l1 => k_is)
    (case c1 => k_is)
    (case k1 => k_is)
    (case a2 => k_is)
    (case l2 => k_is)
    (case c2 => k_is)
    (case k2 => k_is)
    (case a3 => k_is)
    (case l3 => k_is)
    (case c3 => k_is)
    (case k3 => k_is)
    (case a4 => k_is)
    (case l4 => k_is)
    (case c4 => k_is)
    (case k4 => k_is)
    (case a5 => k_is)
    (case l5 => k_is)
    (case c5 => k_is)
    (case k5 => k_is)
    (case a6 => k_is)
    (case l6 => k_is)
    (case c6 => k_is)
    (case k6 => k_is)
    (case a7 => k_is)
    (case l7 => k_is)
    (case c7 => k_is)
    (case k7 => k_is)
    (case a8 => k_is)
    (case l8 => k_is)
    (case c8 => k_is)
    (case k8 => k_is)
    (case a9 => k_is)
    (case l9 => k_is)
    (case c9 => k_is)
    (case k9 => k_is)
    (case a10 => k_is)
    (case l10 => k_is)
    (case c10 => k_is)
    (case k10 => k_is)
    (case a11 => k_is)
    (case l11 => k_is)
    (case c11 => k_is)
    (case k11 => k_is)
    (case a12 => k_is)
    (case l12 => k_is)
    (case c12 => k_is)
    (case k12 => k_is)
    (case a13 => k_is)
    (case l13 => k_is)
    (case c13 => k_is)
    (case k13 => k_is)
    (case a14 => k_is)
    (case l14 => k_is)
    (case c14 => k_is)
    (case k14 => k_is)
    (case a15 => k_is)
    (case l15 => k_is)
    (case c15 => k_is)
    (case k15 => k_is)
    (case a16 => k_is)
    (case l16 => k_is)
    (case c16 => k_is)
    (case k16 => k_is)
    (case a17 => k_is)
    (case l17 => k_is)
    (case c17 => k_is)
    (case k17 => k_is)
    (case a18 => k_is)
    (case l18 => k_is)
    (case c18 => k_is)
    (case k18 => k_is)
    (case a19 => k_is)
    (case l19 => k_is)
    (case c19 => k_is)
    (case k19 => k_is)
    (case a20 => k_is)
    (case l20 => k_is)
    (case c20 => k_is)
    (case k20 => k_is)
    (case a21 => k_is)
    (case l21 => k_is)
    (case c21 => k_is)
    (case k21 => k_is)
    (case z_all => k_is)
    (case z_bool => k_is)
    (case z_enumerate => k_is)
    (case z_int => k_is)
    (case z_isinstance => k_is)
    (case z_len => k_is)
    (case z_list => k_is)
    (case z_max => k_is)
    (case z_range => k_is)
    (case z_repr => k_is)
    (case z_set => k_is)
    (case z_str => k_is)
    (case z_tuple => k_is)
    (case y_KINDS => k_is)
    (case x_KINDS => k_is)
    (case y_LAST_MOMENT => k_is)
    (case y_LAST_WORTH => k_is)
    (case y_LETTERS => k_is)
    (case y_LONGEST_NAME => k_is)
    (case y_MOST_COLUMNS => k_is)
    (case y_MOST_TABLES => k_is)
    (case y_RULES => k_is)
    (case x_RULES => k_is)
end K01

theorem PySem.Challenge.cw_asnevertold_k01_names_and_tables_holds : PySem.Challenge.rw_asnevertold_k01_names_and_tables.Holds :=
  K01.holds_asnevertold_k01_names_and_tables
