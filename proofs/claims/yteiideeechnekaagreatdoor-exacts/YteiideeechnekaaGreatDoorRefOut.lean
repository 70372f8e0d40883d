import Derived.Test.YteiideeechnekaaGreatDoorRefMem
import Derived.Test.YteiideeechnekaaGreatDoorRefSet
import Derived.Test.YteiideeechnekaaGreatDoorRefSum
/-
  The document's Read and Write outside the memory; load and store.
-/
namespace Go.Proofs.YteiideeechnekaaGreatDoor
open Go.RowKit

def dvR (s : RSt) : RSt := { s with device := wrap64 (s.device + 1) }
def next1 (s : RSt) : RSt := { s with pc := (s.pc + 4) % 4294967296 }
def ldOut (s : RSt) (rd a : Nat) : RSt := if (devR (dvR s) a).2.2 then next1 (putR (devR (dvR s) a).1 rd (devR (dvR s) a).2.1) else failR (devR (dvR s) a).1 5 a
def stOut (s : RSt) (a : Nat) (v : Int) : RSt := if (setR (dvR s) a v).2 then next1 (setR (dvR s) a v).1 else failR (setR (dvR s) a v).1 7 a
end Go.Proofs.YteiideeechnekaaGreatDoor

/-
  The document's calls from outside: Line, Tick, Read and Write at every width.
-/
namespace Go.Proofs.YteiideeechnekaaGreatDoor
open Go.RowKit

def tickR (s : RSt) : RSt := { s with mtime := (s.mtime + 1) % 4294967296 }
def setH (s : RSt) (k : Nat) (v : Bool) : RSt := { s with src := s.src.set k { srcAt s k with high := v } }
/-- A line that there is. -/
def lineR (s : RSt) (k : Nat) (hi : Bool) : RSt := if hi then (if (srcAt s k).served then setH s k true else setW (setH s k true) k true) else setH s k false
/-- A read from outside. -/
def readR (s : RSt) (a : Nat) (w : Int) : RSt × Int × Bool :=
  if w = 1 then (if a + 1 ≤ s.ram.length then (s, leV s.ram a 1, true) else (dvR s, 0, false))
  else if w = 2 then (if a + 2 ≤ s.ram.length then (s, leV s.ram a 2, true) else (dvR s, 0, false))
  else if w = 4 then (if a + 4 ≤ s.ram.length then (s, leV s.ram a 4, true) else devR (dvR s) a)
  else (s, 0, false)
/-- A write from outside. -/
def writeR (s : RSt) (a : Nat) (w v : Int) : RSt × Bool :=
  if w = 1 then (if a + 1 ≤ s.ram.length then ({ s with ram := stV s.ram a v 1 }, true) else (dvR s, false))
  else if w = 2 then (if a + 2 ≤ s.ram.length then ({ s with ram := stV s.ram a v 2 }, true) else (dvR s, false))
  else if w = 4 then (if a + 4 ≤ s.ram.length then ({ s with ram := stV s.ram a v 4 }, true) else setR (dvR s) a v)
  else (s, false)
end Go.Proofs.YteiideeechnekaaGreatDoor
