/-
  A store elsewhere leaves a row of the call alone.
-/
import Derived.OneCell
